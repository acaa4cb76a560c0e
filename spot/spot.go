// Package spot is layer 1: it tells where something is in a text.
package spot

import (
	"iter"
	"strings"

	"patchbay/api"
)

// lineEnd is the byte that ends a line.
const lineEnd = '\n'

// Place is the line, and the column, of a place.
func Place(s string, at int) (int, int) {
	return Move(1, 1, s[:inside(s, at)])
}

// At is the place that has a line, and a column.
func At(s string, line, col int) (int, bool) {
	want, here := [2]int{line, col}, [2]int{1, 1}
	for at := range len(s) {
		if here == want {
			return at, true
		}
		here = behind(here, s[at])
	}
	if here == want {
		return len(s), true
	}
	return 0, false
}

// Lines are what is between the line ends.
func Lines(s string) []string {
	var all []string
	for l := range lines(s) {
		all = append(all, l)
	}
	return all
}

// Fail is an error, and the line and the column of its place.
func Fail(s string, at int, e api.Errno) api.Fail {
	if e == api.OK {
		return api.Fail{}
	}
	line, col := Place(s, at)
	return api.Fail{Err: e, Line: line, Col: col}
}

// Move is the line, and the column, of who has gone over s.
func Move(line, col int, s string) (int, int) {
	ends := count(s, same(lineEnd))
	if ends == 0 {
		return line, col + len(s)
	}
	last := strings.LastIndexByte(s, lineEnd)
	return line + ends, len(s) - last
}

// inside is the place of s that is nearest to at.
func inside(s string, at int) int {
	return min(max(at, 0), len(s))
}

// behind is the line, and the column, right behind a byte.
func behind(here [2]int, c byte) [2]int {
	if c == lineEnd {
		return [2]int{here[0] + 1, 1}
	}
	return [2]int{here[0], here[1] + 1}
}

// lines tells line by line; behind the last line end there is one more.
func lines(s string) iter.Seq[string] {
	return func(yield func(string) bool) {
		for {
			end := strings.IndexByte(s, lineEnd)
			if end < 0 {
				yield(s)
				return
			}
			if !yield(s[:end]) {
				return
			}
			s = s[end+1:]
		}
	}
}

// same tells of a byte whether it is c.
func same(c byte) func(byte) bool {
	return func(d byte) bool { return c == d }
}

// count is how many bytes of s are counted.
func count(s string, counted func(byte) bool) int {
	n := 0
	for i := range len(s) {
		if counted(s[i]) {
			n++
		}
	}
	return n
}
