package cover_test

import (
	"math"
	"math/rand"
	"slices"
	"strings"
	"testing"

	"patchbay/api"
	"patchbay/cover"
)

// show is a form as a text: places are letters, capital ones are turned.
func show(l []cover.Form) string {
	s, rest := showFirst(l)
	if len(rest) > 0 {
		return s + " and more"
	}
	return s
}

func showFirst(l []cover.Form) (string, []cover.Form) {
	f, rest := l[0], l[1:]
	switch f.Kind {
	case 0, 1:
		return "01"[f.Kind : f.Kind+1], rest
	case 2:
		return string([]byte{"aA"[f.Lit%2] + byte(f.Lit/2)}), rest
	}
	var kids []string
	for range f.Kids {
		var kid string
		kid, rest = showFirst(rest)
		kids = append(kids, kid)
	}
	return "(" + strings.Join(kids, "  &|"[f.Kind-1:f.Kind]) + ")", rest
}

func TestFactor(t *testing.T) {
	for _, x := range []struct {
		rows string
		n    int
		want string
	}{
		{"11- 1-1", 3, "(a&(b|c))"},
		{"1", 1, "a"}, {"0", 1, "A"}, {"-", 1, "1"}, {"1 0", 1, "(a|A)"}, {"0 1", 1, "(A|a)"},
		{"-01-0", 5, "(B&c&E)"}, {"10 --", 2, "1"}, {"01 10", 2, "((A&b)|(a&B))"},
		{"11 1-", 2, "a"}, {"1-- 11- 1-1", 3, "a"},
		{"11 11 11", 2, "(a&b)"}, {"0-1 0-1 01-", 3, "(A&(c|b))"},
		{"11- 1-1 -11", 3, "((a&(b|c))|(b&c))"},
		{"1-- -1- --1", 3, "(a|b|c)"}, {"--1 -0- 1-- -1-", 3, "(c|B|a|b)"},
		{"11-- 1-1- --11 -1-1", 4, "((a&(b|c))|(d&(c|b)))"},
		{"0--1 0-1- 01--", 4, "(A&(d|c|b))"},
		{"-11 0-- -10", 3, "((b&(c|C))|A)"},
		{"1-1 -01 0-0", 3, "((c&(a|B))|(A&C))"},
		{"10 1- 01", 2, "(a|(A&b))"},
		{"111 110 0-1", 3, "((a&(b&(c|C)))|(A&c))"},
		{"00 01", 2, "(A&(B|b))"},
		{"11 00 10 01", 2, "((a&(b|B))|(A&(B|b)))"},
	} {
		l, e := cover.Factor(strings.Fields(x.rows), x.n)
		if e != api.OK || show(l) != x.want {
			t.Error(x.rows, show(l), "want", x.want, e)
		}
	}
}

func TestFactorOfEdges(t *testing.T) {
	for _, x := range []struct {
		rows []string
		n    int
		want string
	}{
		{nil, 0, "0"}, {nil, 8, "0"}, {[]string{""}, 0, "1"}, {[]string{"", ""}, 0, "1"}, {[]string{"--------"}, 8, "1"},
		{[]string{"11111111"}, 8, "(a&b&c&d&e&f&g&h)"},
	} {
		l, e := cover.Factor(x.rows, x.n)
		if e != api.OK || show(l) != x.want {
			t.Error(x, l, e)
		}
	}
	for i, x := range []struct {
		rows []string
		n    int
	}{
		{nil, -1}, {nil, 9}, {nil, math.MinInt}, {nil, math.MaxInt}, {[]string{"111111111"}, 9},
		{slices.Repeat([]string{"1"}, 129), 1}, {[]string{"1", ""}, 1}, {[]string{"1", "11"}, 1}, {[]string{"1", "x"}, 1}, {[]string{"0 1"}, 3}, {[]string{"a"}, 0},
	} {
		if l, e := cover.Factor(x.rows, x.n); l != nil || e != api.ErrArg {
			t.Error(i, l, e)
		}
	}
	if l, e := cover.Factor(slices.Repeat([]string{"1"}, 128), 1); show(l) != "a" || e != api.OK {
		t.Error(l, e)
	}
}

func randomRows(r *rand.Rand, n int) []string {
	rows := make([]string, r.Intn(1+r.Intn(128)))
	blanks := r.Intn(6)
	for i := range rows {
		row := make([]byte, n)
		for j := range row {
			row[j] = "01-----"[r.Intn(2+blanks)]
		}
		rows[i] = string(row)
	}
	return rows
}

func fits(row string, x int) bool {
	for i := range len(row) {
		if row[i] != '-' && int(row[i]-'0') != x>>i&1 {
			return false
		}
	}
	return true
}

func TestFactorHolds(t *testing.T) {
	r := rand.New(rand.NewSource(3))
	for range 400 {
		n := r.Intn(9)
		rows := randomRows(r, n)
		l, e := cover.Factor(rows, n)
		if e != api.OK || cover.Check(l, n) != api.OK {
			t.Fatal(rows, l, e)
		}
		if cover.Literals(l) > cover.Cost(rows) {
			t.Fatal(rows, cover.Literals(l), cover.Cost(rows))
		}
		for x := range 1 << n {
			ins := make([]bool, n)
			for i := range ins {
				ins[i] = x>>i&1 == 1
			}
			want := slices.ContainsFunc(rows, func(row string) bool { return fits(row, x) })
			if got, e := cover.Eval(l, ins); got != want || e != api.OK {
				t.Fatal(rows, show(l), ins, got, e)
			}
		}
	}
}

func lit(n int) cover.Form { return cover.Form{Kind: 2, Lit: n} }

func TestCheck(t *testing.T) {
	long := []cover.Form{{Kind: 4, Kids: 3999}}
	for range 3999 {
		long = append(long, lit(7999))
	}
	deep := slices.Repeat([]cover.Form{{Kind: 3, Kids: 2}}, 1999)
	deep = append(deep, slices.Repeat([]cover.Form{lit(0)}, 2000)...)
	for i, x := range []struct {
		l  []cover.Form
		n  int
		ok bool
	}{
		{[]cover.Form{{}}, 0, true}, {[]cover.Form{{Kind: 1}}, 0, true}, {[]cover.Form{lit(0)}, 1, true}, {[]cover.Form{lit(5)}, 3, true}, {[]cover.Form{lit(7)}, 4000, true},
		{[]cover.Form{{3, 0, 2}, lit(0), {4, 0, 3}, lit(1), lit(2), {1, 0, 0}}, 2, true},
		{long, 4000, true}, {deep, 1, true},
		{nil, 0, false}, {[]cover.Form{{}, {}}, 0, false}, {[]cover.Form{{Kind: 5}}, 0, false}, {[]cover.Form{{Kind: -1}}, 0, false},
		{[]cover.Form{{}}, -1, false}, {[]cover.Form{{}}, 4001, false},
		{[]cover.Form{lit(0)}, 0, false}, {[]cover.Form{lit(6)}, 3, false}, {[]cover.Form{lit(-1)}, 3, false}, {[]cover.Form{lit(math.MaxInt)}, 3, false}, {[]cover.Form{lit(math.MinInt)}, 3, false},
		{[]cover.Form{{3, 0, 1}, lit(0)}, 1, false}, {[]cover.Form{{4, 0, 0}}, 1, false}, {[]cover.Form{{4, 0, -1}}, 1, false},
		{[]cover.Form{{3, 0, 2}, lit(0)}, 1, false}, {[]cover.Form{{3, 0, 2}, lit(0), lit(0), lit(0)}, 1, false}, {[]cover.Form{{3, 0, math.MaxInt}, lit(0), lit(0)}, 1, false},
		{[]cover.Form{{0, 1, 0}}, 1, false}, {[]cover.Form{{1, 0, 1}}, 1, false}, {[]cover.Form{{2, 0, 2}, lit(0), lit(0)}, 1, false}, {[]cover.Form{{3, 1, 2}, lit(0), lit(0)}, 1, false},
		{append(slices.Clone(long), lit(0)), 4000, false},
		{append([]cover.Form{{4, 0, 4000}, lit(0)}, long[1:]...), 4000, false},
	} {
		if e := cover.Check(x.l, x.n); (e == api.OK) != x.ok || !x.ok && e != api.ErrArg {
			t.Error(i, e)
		}
		if x.ok || x.n < 0 {
			continue
		}
		if v, e := cover.Eval(x.l, make([]bool, x.n)); v || e != api.ErrArg {
			t.Error(i, v, e)
		}
	}
}

func TestEval(t *testing.T) {
	l := []cover.Form{{4, 0, 3}, {3, 0, 2}, lit(0), lit(3), {0, 0, 0}, {3, 0, 3}, lit(4), {1, 0, 0}, lit(2)}
	for x := range 8 {
		a, b, c := x&1 == 1, x>>1&1 == 1, x>>2 == 1
		if v, e := cover.Eval(l, []bool{a, b, c}); v != (a && !b || c && b) || e != api.OK {
			t.Error(x, v, e)
		}
	}
}

func TestLiteralsAndCost(t *testing.T) {
	if n := cover.Literals([]cover.Form{lit(0), {3, 0, 2}, lit(3), lit(3), {Kind: 9}}); n != 3 {
		t.Error(n)
	}
	if n := cover.Literals(nil); n != 0 {
		t.Error(n)
	}
	if n := cover.Cost([]string{"1-0", "---", "", "0", "x\xff"}); n != 5 {
		t.Error(n)
	}
	if n := cover.Cost(nil); n != 0 {
		t.Error(n)
	}
}

func TestSame(t *testing.T) {
	a := []cover.Form{{3, 0, 2}, lit(0), lit(1)}
	if !cover.Same(a, slices.Clone(a)) || !cover.Same(nil, []cover.Form{}) {
		t.Error("alike, and told not to be")
	}
	for _, b := range [][]cover.Form{nil, a[:2], {{4, 0, 2}, lit(0), lit(1)}, {{3, 0, 2}, lit(0), lit(2)}, {{3, 0, 3}, lit(0), lit(1)}} {
		if cover.Same(a, b) || cover.Same(b, a) {
			t.Error(b)
		}
	}
}
