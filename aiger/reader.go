package aiger

import (
	"strconv"
	"strings"

	"patchbay/api"
	"patchbay/digits"
	"patchbay/ident"
)

const (
	blank   = ' '
	lineEnd = '\n'
)

// reader goes through a text; it gives up where something else stands than should.
type reader struct {
	s  string
	at int
}

// stands tells whether a byte is next.
func (r *reader) stands(c byte) bool { return r.at < len(r.s) && r.s[r.at] == c }

// must goes over a byte that has to be next.
func (r *reader) must(c byte) {
	if !r.stands(c) {
		fail(r.s, r.at, api.ErrSyntax)
	}
	r.at++
}

func (r *reader) number() int {
	n, end, e := digits.Get(r.s, r.at)
	if e != api.OK {
		fail(r.s, r.at, api.ErrNumber)
	}
	r.at = end
	return n
}

func (r *reader) header(magic string) [9]int {
	if !isMagic(magic) || !strings.HasPrefix(r.s, magic) {
		fail(r.s, 0, api.ErrSyntax)
	}
	r.at = len(magic)
	var h [9]int
	many := 0
	for many < len(h) && r.stands(blank) {
		r.at++
		h[many] = r.number()
		many++
	}
	if many < leastNumbers {
		fail(r.s, r.at, api.ErrSyntax)
	}
	r.must(lineEnd)
	if h[ofJustice] > 0 || h[ofFairness] > 0 {
		fail(r.s, 0, api.ErrForm)
	}
	if h[ofAll] > api.MaxVars || h[ofInputs]+h[ofLatches]+h[ofAnds] > h[ofAll] || h[ofOutputs]+h[ofBad]+h[ofConstraints] > api.MaxVars {
		fail(r.s, 0, api.ErrLimit)
	}
	return h
}

// isMagic tells whether a text is three letters.
func isMagic(s string) bool {
	for i := range len(s) {
		if (s[i] < 'a' || s[i] > 'z') && (s[i] < 'A' || s[i] > 'Z') {
			return false
		}
	}
	return len(s) == 3
}

// namer reads lines of names.
type namer struct {
	reader
	names [5][]string
	// there is which names have a line: the place of the letter, and the number.
	there map[[2]int]struct{}
}

// newNamer has, of each letter, as many names as many tells: the letter and a number.
func newNamer(s string, at int, many [5]int) *namer {
	n := &namer{reader: reader{s: s, at: at}, there: map[[2]int]struct{}{}}
	for i := range many {
		for j := range min(many[i], api.MaxVars) {
			n.names[i] = append(n.names[i], letters[i:i+1]+strconv.Itoa(j))
		}
	}
	return n
}

// lines reads up to the end, or up to the line from which on nothing is told.
func (n *namer) lines() {
	for rest := n.s[n.at:]; rest != "" && rest != "c" && !strings.HasPrefix(rest, "c\n"); rest = n.s[n.at:] {
		n.line()
	}
}

func (n *namer) line() {
	start := n.at
	letter := strings.IndexByte(letters, n.s[n.at])
	if letter < 0 {
		fail(n.s, n.at, api.ErrSyntax)
	}
	n.at++
	number := n.number()
	n.must(blank)
	many := strings.IndexByte(n.s[n.at:], lineEnd)
	if many < 0 {
		fail(n.s, len(n.s), api.ErrSyntax)
	}
	if number >= len(n.names[letter]) {
		fail(n.s, start+1, api.ErrArg)
	}
	name := n.s[n.at : n.at+many]
	if !ident.Name(name) {
		fail(n.s, n.at, api.ErrName)
	}
	if _, ok := n.there[[2]int{letter, number}]; ok {
		fail(n.s, start, api.ErrTwice)
	}
	n.there[[2]int{letter, number}] = struct{}{}
	n.names[letter][number] = name
	n.at += many + 1
}
