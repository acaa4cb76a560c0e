package inv_test

import (
	"math"
	"math/rand"
	"slices"
	"strconv"
	"strings"
	"testing"

	"patchbay/aig"
	"patchbay/api"
	"patchbay/inv"
	"patchbay/lower"
	"patchbay/sample"
	"patchbay/spot"
	"patchbay/table"
	"patchbay/trans"
)

func clauses(t *testing.T, s string) [][]inv.Lit {
	l, f := inv.Parse(s)
	if f != (api.Fail{}) {
		t.Fatal(s, f)
	}
	return l
}

func TestParseAndPrint(t *testing.T) {
	for s, want := range map[string][][]inv.Lit{
		"":                      nil,
		"\n":                    {{}},
		"\n\n":                  {{}, {}},
		"+q -p\n":               {{{"q", false}, {"p", true}}},
		"-a\n\n++ -- +-x\n+a\n": {{{"a", true}}, {}, {{"+", false}, {"-", true}, {"-x", false}}, {{"a", false}}},
		"+#\\( +#\\(\n":         {{{"#\\(", false}, {"#\\(", false}}},
	} {
		l, f := inv.Parse(s)
		if !inv.Same(l, want) || f != (api.Fail{}) {
			t.Errorf("%q: %v %v", s, l, f)
		}
		if back, e := inv.Print(want); back != s || e != api.OK {
			t.Errorf("%q: %q %v", s, back, e)
		}
	}
	for _, name := range []string{"", "a b", "\n", strings.Repeat("a", 41)} {
		if s, e := inv.Print([][]inv.Lit{{{"a", false}}, {{"b", true}, {name, true}}}); s != "" || e != api.ErrName {
			t.Error(s, e)
		}
	}
}

// A mark @ stands where what is wrong stands.
func TestParseWrong(t *testing.T) {
	for marked, e := range map[string]api.Errno{
		"+a@":                                 api.ErrSyntax,
		"a\n+b@":                              api.ErrSyntax,
		" @":                                  api.ErrSyntax,
		"@a\n":                                api.ErrSyntax,
		"@ \n":                                api.ErrSyntax,
		"@ +a\n":                              api.ErrSyntax,
		"+a @\n":                              api.ErrSyntax,
		"+a @ -b\n":                           api.ErrSyntax,
		"+a\n\n-b @c\n":                       api.ErrSyntax,
		"+@\n":                                api.ErrName,
		"+a -@ +b\n":                          api.ErrName,
		"+a\n+@b\t\n+\n":                      api.ErrName,
		"+a -@b\r\n":                          api.ErrName,
		"+@" + strings.Repeat("a", 41) + "\n": api.ErrName,
	} {
		at := strings.IndexByte(marked, '@')
		s := marked[:at] + marked[at+1:]
		if l, f := inv.Parse(s); l != nil || f != spot.Fail(s, at, e) {
			t.Errorf("%q: %v %v, want %v", s, l, f, spot.Fail(s, at, e))
		}
	}
}

func TestRename(t *testing.T) {
	u := table.Table{From: []string{"a", "b"}, To: []string{"x", "a"}}
	l := clauses(t, "+a -b +a\n\n-a\n")
	r, e := inv.Rename(l, u)
	if !inv.Same(r, clauses(t, "+x -a +x\n\n-x\n")) || e != api.OK {
		t.Error(r, e)
	}
	r[0][0].Name = "changed"
	if l[0][0].Name != "a" {
		t.Error("Rename shares memory with the clauses")
	}
	if r, e := inv.Rename(nil, u); len(r) != 0 || e != api.OK {
		t.Error(r, e)
	}
	for i, x := range []struct {
		l [][]inv.Lit
		t table.Table
		e api.Errno
	}{
		{clauses(t, "+a\n-x\n"), u, api.ErrUnknown},
		{[][]inv.Lit{{{"", false}}}, u, api.ErrUnknown},
		{nil, table.Table{From: []string{"a"}}, api.ErrArg},
		{clauses(t, "+x\n"), table.Table{From: []string{"a", "a"}, To: []string{"a", "b"}}, api.ErrTwice},
	} {
		if r, e := inv.Rename(x.l, x.t); r != nil || e != x.e {
			t.Error(i, r, e)
		}
	}
}

// ring: p, q and r go round, one of them is true; z is that none is.
func ring() api.Model {
	return api.Model{
		Graph: api.Graph{
			Ins: 1, Next: []int{8, 4, 6}, Init: []int{1, 0, 0}, Ands: [][2]int{{7, 5}, {10, 9}}, Outs: []int{12, 2},
		},
		Inputs: []string{"in"}, Latches: []string{"p", "q", "r"}, Outputs: []string{"z", "in"},
	}
}

const ringInvariant = "+p +q +r\n-p -q\n-q -r\n-p -r\n"

func TestHolds(t *testing.T) {
	for _, x := range []struct {
		s     string
		state []bool
		want  bool
	}{
		{"", []bool{true, false, false}, true}, {"\n", []bool{true, false, false}, false},
		{ringInvariant, []bool{true, false, false}, true}, {ringInvariant, []bool{false, false, true}, true},
		{ringInvariant, []bool{false, false, false}, false}, {ringInvariant, []bool{true, true, false}, false},
		{"-p\n", []bool{false, true, true}, true}, {"-p\n", []bool{true, true, true}, false},
	} {
		if v, e := inv.Holds(ring(), clauses(t, x.s), x.state); v != x.want || e != api.OK {
			t.Errorf("%q %v: %v %v", x.s, x.state, v, e)
		}
	}
	bad := ring()
	bad.Outputs[0] = "p"
	for i, x := range []struct {
		m     api.Model
		s     string
		state []bool
		e     api.Errno
	}{
		{bad, "+x\n", nil, api.ErrTwice},
		{ring(), "+p\n-in\n", nil, api.ErrUnknown}, {ring(), "+p\n-z\n", nil, api.ErrUnknown},
		{ring(), "+p\n", []bool{true, true}, api.ErrState}, {ring(), "", make([]bool, 4), api.ErrState},
	} {
		if v, e := inv.Holds(x.m, clauses(t, x.s), x.state); v || e != x.e {
			t.Error(i, v, e)
		}
		if x.e == api.ErrState {
			continue
		}
		if v, e := inv.Check(x.m, clauses(t, x.s), 99, 10); v.Res != 0 || v.State != nil || e != x.e {
			t.Error(i, v, e)
		}
	}
}

func TestCheck(t *testing.T) {
	for _, x := range []struct {
		s     string
		bad   int
		want  inv.Verdict
		exact bool
	}{
		{ringInvariant, -1, inv.Verdict{}, true},
		{ringInvariant, 0, inv.Verdict{}, true},
		{ringInvariant, 1, inv.Verdict{Res: 1, Part: 2}, false},
		{"", -1, inv.Verdict{}, true},
		{"", 0, inv.Verdict{Res: 1, Part: 2, State: []bool{false, false, false}}, true},
		{"\n", -1, inv.Verdict{Res: 1, State: []bool{true, false, false}}, true},
		{"+p +q\n+q +r\n", 0, inv.Verdict{Res: 1, Clause: 1, State: []bool{true, false, false}}, true},
		{"+p +q +r\n+p +q\n", 0, inv.Verdict{Res: 1, Part: 1, Clause: 1}, false},
		{"+p +q +r\n", -1, inv.Verdict{}, true},
		{"+p +q +r\n-p -q\n", -1, inv.Verdict{Res: 1, Part: 1, Clause: 1}, false},
	} {
		v, e := inv.Check(ring(), clauses(t, x.s), x.bad, 1000)
		if e != api.OK || v.Res != x.want.Res || v.Part != x.want.Part || v.Clause != x.want.Clause || x.exact && !slices.Equal(v.State, x.want.State) {
			t.Errorf("%q %d: %v %v", x.s, x.bad, v, e)
		}
		if !x.exact && len(v.State) != 3 {
			t.Error(v)
		}
	}
}

func TestCheckWrong(t *testing.T) {
	for i, x := range []struct {
		l   [][]inv.Lit
		bad int
		e   api.Errno
	}{
		{nil, -2, api.ErrArg}, {nil, 2, api.ErrArg}, {nil, math.MinInt, api.ErrArg}, {nil, math.MaxInt, api.ErrArg},
		{make([][]inv.Lit, 201), -1, api.ErrArg}, {slices.Repeat([][]inv.Lit{{{"x", true}}}, 201), 9, api.ErrUnknown},
	} {
		if v, e := inv.Check(ring(), x.l, x.bad, 10); v.Res != 0 || v.Part != 0 || v.Clause != 0 || v.State != nil || e != x.e {
			t.Error(i, v, e)
		}
	}
	if v, e := inv.Check(ring(), slices.Repeat(clauses(t, "+p -p\n"), 200), -1, 0); v.Res != 0 || e != api.OK {
		t.Error(v, e)
	}
	long := slices.Repeat([]inv.Lit{{"p", false}, {"p", true}}, 60000)
	if v, e := inv.Check(ring(), [][]inv.Lit{long}, -1, 0); v.Res != 0 || e != api.OK {
		t.Error(v, e)
	}
}

func TestCheckIsUnknown(t *testing.T) {
	// The next state of x is the exclusive or of eight latches, and of the same ones in another order: always false, but not easily.
	var m api.Model
	m.Latches = []string{"x"}
	m.Graph.Next, m.Graph.Init = []int{0}, []int{0}
	for i := range 8 {
		m.Latches = append(m.Latches, "q"+strconv.Itoa(i))
		m.Graph.Next, m.Graph.Init = append(m.Graph.Next, 0), append(m.Graph.Init, 0)
	}
	g := m.Graph
	xor := func(a, b int) int {
		var p, q, r int
		g, p, _ = aig.And(g, a, b^1)
		g, q, _ = aig.And(g, a^1, b)
		g, r, _ = aig.And(g, p^1, q^1)
		return r ^ 1
	}
	up, down := 4, 18
	for i := 1; i < 8; i++ {
		up, down = xor(up, 4+2*i), xor(down, 18-2*i)
	}
	g.Next[0] = xor(up, down)
	m.Graph = g
	v, e := inv.Check(m, clauses(t, "+q0 -q0\n-x\n"), -1, 3)
	if v.Res != 2 || v.Part != 1 || v.Clause != 1 || v.State != nil || e != api.OK {
		t.Error(v, e)
	}
	if v, e := inv.Check(m, clauses(t, "-x\n"), -1, 100000); v.Res != 0 || e != api.OK {
		t.Error(v, e)
	}
}

func randomInvariant(r *rand.Rand, m api.Model) [][]inv.Lit {
	var l [][]inv.Lit
	for range r.Intn(4) {
		var c []inv.Lit
		for range 1 + r.Intn(3) {
			c = append(c, inv.Lit{Name: m.Latches[r.Intn(len(m.Latches))], Not: r.Intn(2) == 0})
		}
		l = append(l, c)
	}
	return l
}

// first is the first question that is answered by some, of all states; what else stands there is the states that answer it.
func first(m api.Model, l [][]inv.Lit, bad int) (inv.Verdict, map[string]bool) {
	n := len(m.Latches)
	states := map[string]bool{}
	note := func(state []bool) {
		s := ""
		for _, v := range state {
			s += strconv.FormatBool(v) + " "
		}
		states[s] = true
	}
	for i, c := range l {
		for x := range 1 << n {
			state := sample.Bits(x, n)
			allowed := true
			for j, init := range m.Graph.Init {
				allowed = allowed && (init == 2 || state[j] == (init == 1))
			}
			if v, _ := inv.Holds(m, [][]inv.Lit{c}, state); allowed && !v {
				note(state)
			}
		}
		if len(states) > 0 {
			return inv.Verdict{Res: 1, Part: 0, Clause: i}, states
		}
	}
	for i := range len(l) + 1 {
		for x := range 1 << (n + m.Graph.Ins) {
			state, ins := sample.Bits(x, n), sample.Bits(x>>n, m.Graph.Ins)
			if v, _ := inv.Holds(m, l, state); !v {
				continue
			}
			outs, next, _ := aig.Step(m.Graph, state, ins)
			if i == len(l) {
				if bad >= 0 && outs[bad] {
					note(state)
				}
			} else if v, _ := inv.Holds(m, l[i:i+1], next); !v {
				note(state)
			}
		}
		if len(states) > 0 && i == len(l) {
			return inv.Verdict{Res: 1, Part: 2}, states
		}
		if len(states) > 0 {
			return inv.Verdict{Res: 1, Part: 1, Clause: i}, states
		}
	}
	return inv.Verdict{}, states
}

func TestVerdictIsSo(t *testing.T) {
	r := rand.New(rand.NewSource(20))
	size := sample.Size{Inputs: [2]int{0, 1}, Latches: [2]int{1, 3}, Gates: [2]int{0, 5}, Outputs: [2]int{1, 1}}
	var seen [4]int
	for range 3000 {
		m := sample.Model(r.Intn, size, "(q", "in")
		l := randomInvariant(r, m)
		bad := r.Intn(2) - 1
		want, states := first(m, l, bad)
		v, e := inv.Check(m, l, bad, 100000)
		if e != api.OK || v.Res != want.Res || v.Part != want.Part || v.Clause != want.Clause {
			t.Fatal(m, l, bad, v, want, e)
		}
		s := ""
		for _, b := range v.State {
			s += strconv.FormatBool(b) + " "
		}
		if v.Res == 1 && !states[s] {
			t.Fatal(m, l, bad, v, states)
		}
		if v.Res == 0 {
			seen[3]++
		} else {
			seen[v.Part]++
		}
	}
	for i, n := range seen {
		if n < 50 {
			t.Error("too few of one kind:", i, seen)
		}
	}
}

func TestInvariantOfATranslation(t *testing.T) {
	r := rand.New(rand.NewSource(21))
	size := sample.Size{Inputs: [2]int{0, 1}, Latches: [2]int{1, 3}, Gates: [2]int{0, 5}, Outputs: [2]int{1, 1}}
	limits := api.Limits{Bytes: api.MaxBytes, Nets: api.MaxNets}
	for range 40 {
		m := sample.Model(r.Intn, size, "(q", "in")
		s, _ := trans.Put(api.FmtBlif, m)
		was, _ := trans.Denote(api.FmtBlif, s)
		l := randomInvariant(r, m)
		for to := api.FmtAag; to <= api.FmtVerilog; to++ {
			text, f := trans.Translate(s, api.FmtBlif, to, limits, false)
			n, g := trans.Denote(to, text)
			u, e := table.Of(n.Latches, was.Latches)
			back, e2 := inv.Rename(l, u)
			if f != (api.Fail{}) || g != (api.Fail{}) || e != api.OK || e2 != api.OK {
				t.Fatal(s, text, f, g, e, e2)
			}
			v, _ := inv.Check(n, l, 0, 1000)
			w, e := inv.Check(was, back, 0, 1000)
			if v.Res != w.Res || v.Part != w.Part || v.Clause != w.Clause || e != api.OK || lower.Check(n) != api.OK {
				t.Fatal(s, text, l, v, w)
			}
		}
	}
}

func TestUnknownIsNotToldOfFewVariables(t *testing.T) {
	r := rand.New(rand.NewSource(22))
	size := sample.Size{Inputs: [2]int{0, 1}, Latches: [2]int{1, 3}, Gates: [2]int{0, 5}, Outputs: [2]int{1, 1}}
	for range 2000 {
		m := sample.Model(r.Intn, size, "(q", "in")
		if 1+len(m.Latches)+len(m.Inputs)+len(m.Graph.Ands) > 6 {
			continue
		}
		if v, e := inv.Check(m, randomInvariant(r, m), 0, 1000); v.Res == 2 || e != api.OK {
			t.Fatal(m, v, e)
		}
	}
}

func TestSame(t *testing.T) {
	a := clauses(t, "+a -b\n+a\n")
	if !inv.Same(a, clauses(t, "+a -b\n+a\n")) || !inv.Same(nil, [][]inv.Lit{}) || !inv.Same([][]inv.Lit{{}}, [][]inv.Lit{nil}) {
		t.Error("alike, and told not to be")
	}
	for _, s := range []string{"", "+a -b\n", "+a +b\n+a\n", "+a -c\n+a\n", "-b +a\n+a\n", "+a -b +a\n\n"} {
		if inv.Same(a, clauses(t, s)) || inv.Same(clauses(t, s), a) {
			t.Error(s)
		}
	}
}

func FuzzParse(f *testing.F) {
	f.Add("+q -p\n\n-x\n")
	f.Fuzz(func(t *testing.T, s string) {
		l, fail := inv.Parse(s)
		if fail == (api.Fail{}) {
			if back, e := inv.Print(l); back != s || e != api.OK {
				t.Error(back)
			}
		} else if l != nil {
			t.Error(l, fail)
		}
	})
}
