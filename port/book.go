package port

import (
	"iter"
	"slices"

	"kentledge/api"
)

// Torn returns a book of which a page is torn.
func Torn(lines []string, page, left, bytes int) ([]string, api.Errno) {
	pages := (len(lines) + api.PageLines - 1) / api.PageLines
	if !within(page, 0, pages-1) {
		return nil, api.ErrArg
	}
	from := page * api.PageLines
	to := min(from+api.PageLines, len(lines))
	if !within(left, 0, to-from) || bytes < 0 {
		return nil, api.ErrArg
	}
	lines = slices.Clone(lines)
	clear(lines[from+left : to])
	if left > 0 {
		last := &lines[from+left-1]
		*last = (*last)[:min(bytes, len(*last))]
	}
	return lines, api.OK
}

// pages are the lines of a copy of a book, and for each one the minute from which it is known. The line n has the index n - 1.
type pages struct {
	lines []string
	ticks []int
}

// readable yields the numbers of the lines that can be read, with their entries.
func (p *pages) readable() iter.Seq2[int, api.Entry] {
	return func(yield func(int, api.Entry) bool) {
		for i, s := range p.lines {
			x, e := Read(s)
			if e == api.OK && !yield(i+1, x) {
				return
			}
		}
	}
}

func (p *pages) canRead(n int) bool {
	if n > len(p.lines) {
		return false
	}
	_, e := Read(p.lines[n-1])
	return e == api.OK
}

// put writes the line n, with empty lines ahead of it if there are too few.
func (p *pages) put(n int, s string, tick int) {
	for len(p.lines) < n {
		p.lines = append(p.lines, "")
		p.ticks = append(p.ticks, 0)
	}
	p.lines[n-1], p.ticks[n-1] = s, tick
}

// tell gives another copy of the same book the lines that can be read here, and not there, and returns how many these are.
func (p *pages) tell(other *pages, tick int) int {
	told := 0
	for n := range p.readable() {
		if !other.canRead(n) {
			other.put(n, p.lines[n-1], tick)
			told++
		}
	}
	return told
}

// copies are those of books, by the wharves whose books they are.
type copies map[int]*pages

// wharf is a wharf with the copies that it has; that of its own book is the book itself.
type wharf struct {
	copies
	id int
}

func (w wharf) book() *pages { return w.copies[w.id] }
