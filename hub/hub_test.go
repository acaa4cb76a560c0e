package hub_test

import (
	"math/rand"
	"slices"
	"strconv"
	"strings"
	"testing"

	"patchbay/aig"
	"patchbay/api"
	"patchbay/cross"
	"patchbay/hub"
	"patchbay/inv"
	"patchbay/lower"
	"patchbay/sample"
	"patchbay/trans"
	"patchbay/witness"
)

var limits = api.Limits{Bytes: api.MaxBytes, Nets: api.MaxNets}

// counter counts steps in which en is true: q0, q1; z is that both are; p begins with true, and stays so.
const counter = `INPUT(en)
OUTPUT(z)
OUTPUT(np)
q0 = DFF(d0)
q1 = DFF(d1)
p = DFF1(p)
d0 = XOR(q0, en)
c = AND(q0, en)
d1 = XOR(q1, c)
z = AND(q0, q1)
np = NOT(p)
`

func act(kind int, more string) hub.Act {
	return hub.Act{Kind: kind, Text: counter, From: api.FmtBench, To: api.FmtVerilog, More: more, K: -1, N: 1000, L: limits}
}

func TestTranslate(t *testing.T) {
	for to := api.FmtAag; to <= api.FmtVerilog; to++ {
		for _, graph := range []bool{false, true} {
			a := act(0, "")
			a.To, a.Graph = to, graph
			want, _ := trans.Translate(counter, api.FmtBench, to, limits, graph)
			if got := hub.Do(a); got != (hub.Told{Text: want}) || want == "" {
				t.Error(to, got)
			}
		}
	}
	a := hub.Act{Text: ".model m\n.inputs a\n.outputs a\n.end", From: api.FmtBlif, To: api.FmtBench, L: limits}
	if got := hub.Do(a); got != (hub.Told{Text: "INPUT(a)\nOUTPUT(a)\n"}) {
		t.Error(got)
	}
}

const (
	threeSteps = "1\nb0\n001\n1\n1\n1\n0\n.\n"
	twoSteps   = "1\nb0\n00x\n1\nx\n.\n"
)

func TestWitnessOfATranslation(t *testing.T) {
	if got := hub.Do(act(1, threeSteps)); got != (hub.Told{Text: threeSteps, Res: 1}) {
		t.Error(got)
	}
	if got := hub.Do(act(1, twoSteps)); got != (hub.Told{Text: twoSteps}) {
		t.Error(got)
	}
	a := act(1, threeSteps)
	for to := api.FmtAag; to <= api.FmtVerilog; to++ {
		a.To, a.Graph = to, !a.Graph
		if got := hub.Do(a); got != (hub.Told{Text: threeSteps, Res: 1}) {
			t.Error(to, got)
		}
	}
}

func TestReplay(t *testing.T) {
	if got := hub.Do(act(4, threeSteps)); got != (hub.Told{Res: 1}) {
		t.Error(got)
	}
	if got := hub.Do(act(4, twoSteps)); got != (hub.Told{}) {
		t.Error(got)
	}
}

func TestInvariants(t *testing.T) {
	for _, x := range []struct {
		kind int
		more string
		k, n int
		want hub.Told
	}{
		{2, "+p\n", -1, 10, hub.Told{Text: "+p\n"}},
		{2, "+p\n", 1, 10, hub.Told{Text: "+p\n"}},
		{2, "", 1, 10, hub.Told{Res: 1}},
		{2, "-q0 -q1\n", -1, 10, hub.Told{Text: "-q0 -q1\n", Res: 1}},
		{5, "+p\n", 1, 10, hub.Told{}},
		{5, "+q1\n", -1, 10, hub.Told{Res: 1, Text: "0 0 001\n"}},
		{5, "+p\n-p -q0\n+q0\n", -1, 10, hub.Told{Res: 1, Text: "0 2 001\n"}},
		{5, "-q1\n", -1, 10, hub.Told{Res: 1, Text: "1 0 10"}},
		{5, "+p\n", 0, 10, hub.Told{Res: 1, Text: "2 0 111\n"}},
		{5, "", -1, 0, hub.Told{}},
	} {
		a := act(x.kind, x.more)
		a.K, a.N = x.k, x.n
		got := hub.Do(a)
		if x.more == "-q1\n" { // p may have either value
			if got.Text != "1 0 100\n" && got.Text != "1 0 101\n" {
				t.Error(got)
			}
			continue
		}
		if got != x.want {
			t.Error(x, got)
		}
	}
}

func TestCrossCheck(t *testing.T) {
	verilog := hub.Do(act(0, "")).Text
	a := act(3, verilog)
	a.K, a.N = 6, 100000
	if got := hub.Do(a); got != (hub.Told{}) {
		t.Error(got)
	}
	a.More = strings.Replace(verilog, "and (z,", "or (z,", 1)
	if got := hub.Do(a); got.Res != 1 || got.Text != "1\nb0\n001\n1\n0\n.\n" && got.Text != "1\nb0\n001\n1\n1\n.\n" {
		t.Error(got)
	}
	a.K = 1
	if got := hub.Do(a); got != (hub.Told{}) {
		t.Error(got)
	}
	a.K, a.N, a.More = 6, 0, verilog
	if got := hub.Do(a); got != (hub.Told{}) && got != (hub.Told{Res: 2}) {
		t.Error(got)
	}
}

func TestErrors(t *testing.T) {
	form, limit := api.Fail{Err: api.ErrForm}, api.Fail{Err: api.ErrLimit}
	bad := api.Fail{Err: api.ErrSyntax, Line: 1, Col: 2}
	one := api.Fail{Err: api.ErrSyntax, Line: 1, Col: 1}
	number := api.Fail{Err: api.ErrNumber, Line: 2, Col: 2}
	for i, x := range []struct {
		kinds  string
		change func(a *hub.Act)
		fail   api.Fail
		in     int
	}{
		{"0", func(a *hub.Act) { a.Kind = -1; a.L.Bytes = 0 }, form, 0},
		{"0", func(a *hub.Act) { a.Kind = 6; a.L.Bytes = 0 }, form, 0},
		{"012345", func(a *hub.Act) { a.L.Bytes = len(counter) - 1; a.From = 9 }, limit, 0},
		{"012345", func(a *hub.Act) { a.More = strings.Repeat("+", len(counter)+1); a.L.Bytes = len(counter); a.From = 9 }, limit, 0},
		{"012345", func(a *hub.Act) { a.From = 9 }, form, 0},
		{"012345", func(a *hub.Act) { a.Text = "a"; a.More = "?" }, bad, 0},
		{"12345", func(a *hub.Act) { a.L.Nets = 3; a.More = "?" }, limit, 0},
		{"0", func(a *hub.Act) { a.L.Nets = 8 }, limit, 0},
		{"012", func(a *hub.Act) { a.To = -1; a.More = "?" }, form, 0},
		{"3", func(a *hub.Act) { a.To = -1 }, form, 1},
		{"3", func(a *hub.Act) { a.More = "module m"; a.K = 99 }, api.Fail{Err: api.ErrSyntax, Line: 1, Col: 9}, 1},
		{"3", func(a *hub.Act) { a.To, a.More, a.L.Nets = api.FmtAag, "aag 13 13 0 0 0\n"+lines(13), 12 }, limit, 1},
		{"14", func(a *hub.Act) { a.More = "1\nb" }, number, 1},
		{"14", func(a *hub.Act) { a.More = "" }, one, 1},
		{"25", func(a *hub.Act) { a.More = "?"; a.K = 99 }, api.Fail{Err: api.ErrSyntax, Line: 1, Col: 2}, 1},
		{"25", func(a *hub.Act) { a.More = "+\n"; a.K = 99 }, api.Fail{Err: api.ErrName, Line: 1, Col: 2}, 1},
		{"14", func(a *hub.Act) { a.More = "1\nb2\n001\n1\n.\n" }, api.Fail{Err: api.ErrArg}, 0},
		{"14", func(a *hub.Act) { a.More = "1\nb0\n101\n1\n.\n" }, api.Fail{Err: api.ErrState}, 0},
		{"25", func(a *hub.Act) { a.More = "+p\n-en\n"; a.K = 99 }, api.Fail{Err: api.ErrUnknown}, 0},
		{"25", func(a *hub.Act) { a.More = "+p\n"; a.K = 2 }, api.Fail{Err: api.ErrArg}, 0},
		{"3", func(a *hub.Act) { a.More = "module m(); endmodule"; a.K = 99 }, api.Fail{Err: api.ErrUnknown}, 0},
		{"3", func(a *hub.Act) { a.To, a.More, a.K = a.From, a.Text, 41 }, limit, 0},
	} {
		for _, kind := range x.kinds {
			a := act(int(kind-'0'), "")
			x.change(&a)
			if got := hub.Do(a); got != (hub.Told{Fail: x.fail, In: x.in}) {
				t.Error(i, string(kind), got)
			}
		}
	}
}

func TestLimits(t *testing.T) {
	limit := api.Fail{Err: api.ErrLimit}
	a := act(4, threeSteps)
	a.L.Bytes = len(counter)
	if got := hub.Do(a); got != (hub.Told{Res: 1}) {
		t.Error(got)
	}
	a.Text, a.More, a.L.Bytes = "", counter, len(counter)
	if got := hub.Do(a); got.Fail.Err != api.ErrSyntax || got.In != 1 {
		t.Error(got)
	}
	// Three nets, and a graph of two inputs and three ands.
	for kind := range 6 {
		a = act(kind, "")
		a.Text, a.L.Nets = "INPUT(a) INPUT(b) OUTPUT(z) z = XOR(a, b)", 4
		if got := hub.Do(a); (got != hub.Told{Fail: limit}) != (kind == 0) {
			t.Error(kind, got)
		}
	}
	for nets, want := range []bool{true, true, true, true, true, false, false} {
		a = act(5, "")
		a.From, a.Text, a.L.Nets = api.FmtAag, "aag 5 2 1 0 2\n2\n4\n6 10\n8 6 2\n10 8 4\n", nets
		if got := hub.Do(a); (got.Fail == limit) != want {
			t.Error(nets, got)
		}
	}
	many := "aag 201 0 201 0 0\n"
	for i := range 201 {
		many += strconv.Itoa(2*i+2) + " 0\n"
	}
	a = act(2, "")
	a.From, a.To, a.Text, a.L.Nets = api.FmtAag, api.FmtAig, many, 1000
	if got := hub.Do(a); got != (hub.Told{Fail: limit}) {
		t.Error(got)
	}
}

func lines(n int) string {
	s := ""
	for i := range n {
		s += strconv.Itoa(2*(i+1)) + "\n"
	}
	return s
}

func TestRun(t *testing.T) {
	var acts []hub.Act
	for i := range 130 {
		a := act(i%7, []string{threeSteps, "+p\n", "?", counter}[i%4])
		a.To = api.Format(i % 6)
		acts = append(acts, a)
	}
	for _, n := range []int{0, 1, 50, 100, 130} {
		all := hub.Run(acts[:n])
		if len(all) != min(n, 100) {
			t.Error(n, len(all))
		}
		for i, told := range all {
			if !hub.Same(told, hub.Do(acts[i])) {
				t.Error(i, told)
			}
		}
	}
	if all := hub.Run(nil); len(all) != 0 {
		t.Error(all)
	}
}

func TestShow(t *testing.T) {
	for _, x := range []struct {
		told hub.Told
		want string
	}{
		{hub.Told{}, "ok 0\n"},
		{hub.Told{Res: 2, Text: "a\nb"}, "ok 2\na\nb"},
		{hub.Told{Fail: api.Fail{Err: api.ErrLoop, Line: 3, Col: 14}, In: 1}, "error 7 in 1 at 3:14\n"},
		{hub.Told{Fail: api.Fail{Err: api.ErrLimit}, Text: "x", Res: 1}, "error 8 in 0 at 0:0\n"},
		{hub.Told{Fail: api.Fail{Err: -1, Line: -2, Col: -3}, In: -4}, "error -1 in -4 at -2:-3\n"},
		{hub.Told{Res: -7}, "ok -7\n"},
	} {
		if s := hub.Show(x.told); s != x.want {
			t.Errorf("%q", s)
		}
	}
}

func TestSame(t *testing.T) {
	a := hub.Told{Fail: api.Fail{Err: 1, Line: 2, Col: 3}, In: 1, Text: "t", Res: 1}
	if !hub.Same(a, a) {
		t.Error("alike, and told not to be")
	}
	for i, change := range []func(b *hub.Told){
		func(b *hub.Told) { b.Fail.Col = 0 },
		func(b *hub.Told) { b.In = 0 },
		func(b *hub.Told) { b.Text = "" },
		func(b *hub.Told) { b.Res = 0 },
	} {
		b := a
		change(&b)
		if hub.Same(a, b) || hub.Same(b, a) {
			t.Error(i)
		}
	}
}

// A witness, or an invariant, of a translation is one of what was translated; and what is told to hold holds in every state that is reached.
func TestGoesAlong(t *testing.T) {
	r := rand.New(rand.NewSource(24))
	size := sample.Size{Inputs: [2]int{0, 2}, Latches: [2]int{1, 3}, Gates: [2]int{0, 7}, Outputs: [2]int{1, 3}}
	for range 150 {
		m := sample.Model(r.Intn, size, "(in", "#", "and")
		from, to := api.Format(r.Intn(5)), api.Format(r.Intn(5))
		s, e := trans.Put(from, m)
		if e != api.OK {
			t.Fatal(m, e)
		}
		a := hub.Act{Text: s, From: from, To: to, Graph: r.Intn(2) == 0, L: limits, N: 100000}
		was, _ := trans.Denote(from, s)
		w := witness.Witness{Bad: r.Intn(len(m.Outputs)), State: slices.Clone(m.Graph.Init)}
		for range 1 + r.Intn(4) {
			var row []int
			for range m.Inputs {
				row = append(row, r.Intn(3))
			}
			w.Steps = append(w.Steps, row)
		}
		a.Kind = 1
		a.More, _ = witness.Print(w)
		isTrue, _ := witness.Replay(was, w)
		if got := hub.Do(a); got.Fail != (api.Fail{}) || got.Text != a.More || (got.Res == 1) != isTrue {
			t.Fatal(a, got)
		}
		a.Kind, a.K = 2, w.Bad
		a.More = "+" + m.Latches[0] + " -" + m.Latches[len(m.Latches)-1] + "\n"
		l, _ := inv.Parse(a.More)
		got := hub.Do(a)
		if got.Fail != (api.Fail{}) || got.Text != a.More {
			t.Fatal(a, got)
		}
		if got.Res == 0 {
			holdsInAll(t, was, l, a.K)
		}
		crossed(t, a, was)
	}
}

// holdsInAll goes through all states that are reached.
func holdsInAll(t *testing.T, m api.Model, l [][]inv.Lit, bad int) {
	n := len(m.Latches)
	reached := make([]bool, 1<<n)
	number := func(state []bool) int {
		x := 0
		for i, v := range state {
			if v {
				x |= 1 << i
			}
		}
		return x
	}
	for x := range reached {
		reached[x] = true
		for i, init := range m.Graph.Init {
			if init != 2 && (x>>i&1 == 1) != (init == 1) {
				reached[x] = false
			}
		}
	}
	for range 1 << n {
		for x := range reached {
			if !reached[x] {
				continue
			}
			if v, _ := inv.Holds(m, l, sample.Bits(x, n)); !v {
				t.Fatal(m, l, x)
			}
			for y := range 1 << m.Graph.Ins {
				outs, next, _ := aig.Step(m.Graph, sample.Bits(x, n), sample.Bits(y, m.Graph.Ins))
				reached[number(next)] = true
				if outs[bad] {
					t.Fatal(m, l, bad, x, y)
				}
			}
		}
	}
}

// crossed looks whether a translation is told to do the same, and one of which an output is turned to differ.
func crossed(t *testing.T, a hub.Act, was api.Model) {
	a.Kind = 0
	a.More = hub.Do(a).Text
	a.Kind, a.K, a.N = 3, 3, 100000
	if got := hub.Do(a); got != (hub.Told{}) {
		t.Fatal(a, got)
	}
	other := was
	other.Graph.Outs = slices.Clone(was.Graph.Outs)
	other.Graph.Outs[0] ^= 1
	if lower.Check(other) != api.OK {
		t.Fatal(other)
	}
	a.More, _ = trans.Put(a.To, other)
	got := hub.Do(a)
	w, f := witness.Parse(got.Text)
	if got.Res != 1 || f != (api.Fail{}) || w.Bad != 0 || len(w.Steps) != 1 {
		t.Fatal(a, got)
	}
	x, _ := cross.Cross(was, other, 3, 100000)
	if v, e := cross.Replay(was, other, x); !v || e != api.OK {
		t.Fatal(x)
	}
	first, _ := witness.Replay(was, w)
	second, _ := witness.Replay(other, w)
	if first == second {
		t.Fatal(a, got)
	}
}

func FuzzDo(f *testing.F) {
	for kind, more := range []string{"", threeSteps, "+p\n", counter, twoSteps, "-q1\n"} {
		f.Add(kind, counter, 3, 3, more, false, 2, 50)
	}
	f.Fuzz(func(t *testing.T, kind int, text string, from, to int, more string, graph bool, k, n int) {
		a := hub.Act{Kind: kind, Text: text, From: api.Format(from), To: api.Format(to), More: more, Graph: graph, K: k, N: min(n, 200), L: limits}
		told := hub.Do(a)
		if told.Fail.Err != api.OK && (told.Text != "" || told.Res != 0) || told.Fail.Err == api.OK && told.In != 0 {
			t.Error(told)
		}
		if !hub.Same(told, hub.Do(a)) {
			t.Error("told something else")
		}
	})
}
