package witness

import (
	"strings"

	"patchbay/api"
	"patchbay/digits"
	"patchbay/spot"
)

const lineEnd = '\n'

// reader goes through a text; it gives up by a panic with what is wrong, and where.
type reader struct {
	s  string
	at int
}

func (r *reader) fail(at int, e api.Errno) { panic(spot.Fail(r.s, at, e)) }

// must goes over a byte that has to be next.
func (r *reader) must(c byte) {
	if !r.stands(c) {
		r.fail(r.at, api.ErrSyntax)
	}
	r.at++
}

// stands tells whether a byte is next.
func (r *reader) stands(c byte) bool { return r.at < len(r.s) && r.s[r.at] == c }

func (r *reader) witness() Witness {
	var w Witness
	r.must('1')
	r.must(lineEnd)
	r.must('b')
	n, end, e := digits.Get(r.s, r.at)
	if e != api.OK {
		r.fail(r.at, api.ErrNumber)
	}
	w.Bad, r.at = n, end
	r.must(lineEnd)
	w.State = r.row()
	for !r.stands('.') {
		w.Steps = append(w.Steps, r.row())
	}
	r.must('.')
	r.must(lineEnd)
	if r.at < len(r.s) {
		r.fail(r.at, api.ErrSyntax)
	}
	return w
}

// row reads a line of values.
func (r *reader) row() []int {
	var l []int
	for i, c := range r.s[r.at:] {
		if c == lineEnd {
			r.at += i + 1
			return l
		}
		v := strings.IndexRune(signs, c)
		if v < 0 {
			r.fail(r.at+i, api.ErrSyntax)
		}
		l = append(l, v)
	}
	r.fail(len(r.s), api.ErrSyntax)
	return nil
}
