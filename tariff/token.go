package tariff

import (
	"strconv"
	"strings"

	"kentledge/api"
)

// The kinds of tokens.
const (
	wordToken = iota
	numberToken
	markToken
	endToken // behind the last one
)

// token is a part of a source, and the index of its first byte.
type token struct {
	kind int
	text string
	at   int
}

// nowhere is the place of an error where there is none.
const nowhere = -1

func isLetter(b byte) bool { return 'a' <= b && b <= 'z' }

func isDigit(b byte) bool { return '0' <= b && b <= '9' }

func isInWord(b byte) bool { return isLetter(b) || isDigit(b) }

// length returns how many bytes at the beginning of a text are of some sort.
func length(s string, isOfSort func(byte) bool) int {
	n := 0
	for n < len(s) && isOfSort(s[n]) {
		n++
	}
	return n
}

// tokensOf returns the tokens of a source, and one for its end, or the index of its first error.
func tokensOf(source string) ([]token, int) {
	var l []token
	at := 0
	for at < len(source) {
		rest := source[at:]
		if n := gap(rest); n > 0 {
			at += n
			continue
		}
		kind, size, wrong := firstToken(rest)
		if wrong != nowhere {
			return nil, at + wrong
		}
		l = append(l, token{kind: kind, text: rest[:size], at: at})
		at += size
	}
	return append(l, token{kind: endToken, at: at}), nowhere
}

// gap returns how many bytes at the beginning of a text separate tokens.
func gap(s string) int {
	switch s[0] {
	case ' ', '\t', '\n':
		return 1
	case '#':
		return length(s, func(b byte) bool { return b != '\n' })
	}
	return 0
}

// firstToken returns the kind and the bytes of the token at the beginning of a text, or the index of the byte at which it is wrong.
func firstToken(s string) (kind, size, wrong int) {
	switch {
	case isLetter(s[0]):
		size, wrong = word(s)
		return wordToken, size, wrong
	case isDigit(s[0]):
		size, wrong = number(s)
		return numberToken, size, wrong
	case strings.IndexByte(":;,", s[0]) >= 0:
		return markToken, 1, nowhere
	}
	return 0, 0, 0 // a byte that begins no token
}

func word(s string) (size, wrong int) {
	size = length(s, isInWord)
	if size > api.MaxName {
		return 0, 0
	}
	return size, nowhere
}

func number(s string) (size, wrong int) {
	size = 1 // behind a 0 there is no other digit
	if s[0] != '0' {
		size = length(s, isDigit)
	}
	if n, err := strconv.Atoi(s[:size]); err != nil || n > api.MaxMass {
		return 0, 0
	}
	if size < len(s) && isInWord(s[size]) {
		return 0, size
	}
	return size, nowhere
}
