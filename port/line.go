package port

import (
	"strconv"
	"strings"

	"kentledge/api"
)

// blank is a place for a number in a line: where the number is kept, and from what to what it is.
type blank struct {
	at     *int
	lo, hi int
}

// id is a blank for a number that names a thing.
func id(n *int) blank { return blank{n, 1, api.MaxID} }

// areFilled reports whether the numbers of some blanks are as they have to be.
func areFilled(l []blank) bool {
	for _, b := range l {
		if !within(*b.at, b.lo, b.hi) {
			return false
		}
	}
	return true
}

// line returns a word, and numbers behind it.
func line(word string, numbers ...int) string {
	words := []string{word}
	for _, n := range numbers {
		words = append(words, strconv.Itoa(n))
	}
	return strings.Join(words, " ")
}

// filled returns a word, and the numbers of some blanks.
func filled(word string, l []blank) string {
	var numbers []int
	for _, b := range l {
		numbers = append(numbers, *b.at)
	}
	return line(word, numbers...)
}

// reader goes through the words of a line. It panics with api.ErrForm where a number is wanted, and there is none.
type reader struct{ rest string }

func (r *reader) word() string {
	word, rest, _ := strings.Cut(r.rest, " ")
	r.rest = rest
	return word
}

func (r *reader) number() int {
	n, err := strconv.Atoi(r.word())
	if err != nil {
		panic(api.ErrForm)
	}
	return n
}

func (r *reader) fill(l []blank) {
	for _, b := range l {
		*b.at = r.number()
	}
}

// read returns the thing that is read from a line. A thing has one line only, which text tells: what was read is right if it is written just so.
func read[T any](s string, from func(*reader) T, text func(T) (string, api.Errno)) (x T, e api.Errno) {
	var nothing T
	defer func() {
		if recover() != nil {
			x, e = nothing, api.ErrForm
		}
	}()
	x = from(&reader{rest: s})
	if again, wrong := text(x); wrong != api.OK || again != s {
		return nothing, api.ErrForm
	}
	return x, api.OK
}
