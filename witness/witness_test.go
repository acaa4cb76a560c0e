package witness_test

import (
	"math"
	"math/rand"
	"slices"
	"strings"
	"testing"

	"patchbay/aig"
	"patchbay/api"
	"patchbay/lower"
	"patchbay/sample"
	"patchbay/spot"
	"patchbay/trans"
	"patchbay/witness"
)

func TestPrint(t *testing.T) {
	for _, x := range []struct {
		w    witness.Witness
		want string
	}{
		{witness.Witness{Steps: [][]int{{1}}}, "1\nb0\n\n1\n.\n"},
		{witness.Witness{}, "1\nb0\n\n.\n"},
		{witness.Witness{Bad: 2147483647, State: []int{0, 1, 2}, Steps: [][]int{{}, {2, 2}, {0}}}, "1\nb2147483647\n01x\n\nxx\n0\n.\n"},
	} {
		if s, e := witness.Print(x.w); s != x.want || e != api.OK {
			t.Errorf("%q %v", s, e)
		}
		if w, f := witness.Parse(x.want); !witness.Same(w, x.w) || f != (api.Fail{}) {
			t.Error(x.want, w, f)
		}
	}
	for i, w := range []witness.Witness{{Bad: -1}, {Bad: 1 << 31}, {State: []int{3}}, {State: []int{-1}}, {Steps: [][]int{{0}, {1, 5}}}, {Steps: [][]int{{math.MinInt}}}} {
		if s, e := witness.Print(w); s != "" || e != api.ErrArg {
			t.Error(i, s, e)
		}
	}
}

// A mark @ stands where what is wrong stands.
func TestParseWrong(t *testing.T) {
	for marked, e := range map[string]api.Errno{
		"@":                          api.ErrSyntax,
		"@0\nb0\n":                   api.ErrSyntax,
		"1@":                         api.ErrSyntax,
		"1@1\nb":                     api.ErrSyntax,
		"1@\r\n":                     api.ErrSyntax,
		"1\n@":                       api.ErrSyntax,
		"1\n@j0\n":                   api.ErrSyntax,
		"1\nb@":                      api.ErrNumber,
		"1\nb@\n":                    api.ErrNumber,
		"1\nb@01\n":                  api.ErrNumber,
		"1\nb@-1\n":                  api.ErrNumber,
		"1\nb@2147483648\n":          api.ErrNumber,
		"1\nb12@":                    api.ErrSyntax,
		"1\nb12@ \n":                 api.ErrSyntax,
		"1\nb1@x\n":                  api.ErrSyntax,
		"1\nb1\n@":                   api.ErrSyntax,
		"1\nb1\n01@":                 api.ErrSyntax,
		"1\nb1\n01@2\n":              api.ErrSyntax,
		"1\nb1\n@.\n":                api.ErrSyntax,
		"1\nb1\n01x@X\n":             api.ErrSyntax,
		"1\nb1\n01x\n@":              api.ErrSyntax,
		"1\nb1\n01x\n01@.\n":         api.ErrSyntax,
		"1\nb1\n01x\n01@\xff\n":      api.ErrSyntax,
		"1\nb1\n01x\n01@\u00e9\n":    api.ErrSyntax,
		"1\nb1\n01x\n01@\ufffd\n":    api.ErrSyntax,
		"1\nb1\n\n0\n@a":             api.ErrSyntax,
		"1\nb1\n\n0\n.@":             api.ErrSyntax,
		"1\nb1\n\n0\n.@.\n":          api.ErrSyntax,
		"1\nb1\n\n0\n.@0\n":          api.ErrSyntax,
		"1\nb1\n\n0\n.\n@\n":         api.ErrSyntax,
		"1\nb1\n\n0\n.\n@1\nb0\n":    api.ErrSyntax,
		"1\nb1\n\n0@ \n.\n":          api.ErrSyntax,
		"1\nb1\n\n\n\n\n0\n0\n.\n@x": api.ErrSyntax,
	} {
		at := strings.IndexByte(marked, '@')
		s := marked[:at] + marked[at+1:]
		if w, f := witness.Parse(s); !witness.Same(w, witness.Witness{}) || f != spot.Fail(s, at, e) {
			t.Errorf("%q: %v %v, want %v", s, w, f, spot.Fail(s, at, e))
		}
	}
}

// toggle: z is true, once q is true and a is; q turns with each b, and begins with false; p begins with true, r either way.
func toggle() api.Model {
	return api.Model{
		Graph: api.Graph{
			Ins: 2, Next: []int{17, 8, 10}, Init: []int{0, 1, 2},
			Ands: [][2]int{{6, 5}, {7, 4}, {15, 13}, {6, 2}}, Outs: []int{18, 6, 11},
		},
		Inputs: []string{"a", "b"}, Latches: []string{"q", "p", "r"}, Outputs: []string{"z", "q", "nr"},
	}
}

func TestFits(t *testing.T) {
	good := func() witness.Witness {
		return witness.Witness{Bad: 2, State: []int{0, 1, 2}, Steps: [][]int{{0, 1}, {2, 2}}}
	}
	for i, x := range []struct {
		change func(m *api.Model, w *witness.Witness)
		e      api.Errno
	}{
		{func(m *api.Model, w *witness.Witness) {}, api.OK},
		{func(m *api.Model, w *witness.Witness) { w.State = []int{2, 2, 0} }, api.OK},
		{func(m *api.Model, w *witness.Witness) { w.Steps = slices.Repeat([][]int{{1, 1}}, 40) }, api.OK},
		{func(m *api.Model, w *witness.Witness) { m.Inputs[0] = ""; w.Bad = 9 }, api.ErrName},
		{func(m *api.Model, w *witness.Witness) { w.Bad = 3 }, api.ErrArg},
		{func(m *api.Model, w *witness.Witness) { w.Bad = -1; w.State[0] = 1 }, api.ErrArg},
		{func(m *api.Model, w *witness.Witness) { w.State = w.State[:2] }, api.ErrArg},
		{func(m *api.Model, w *witness.Witness) { w.State = append(w.State, 0) }, api.ErrArg},
		{func(m *api.Model, w *witness.Witness) { w.Steps[1] = []int{1} }, api.ErrArg},
		{func(m *api.Model, w *witness.Witness) { w.Steps[0] = []int{1, 0, 1} }, api.ErrArg},
		{func(m *api.Model, w *witness.Witness) { w.Steps = nil }, api.ErrArg},
		{func(m *api.Model, w *witness.Witness) { w.Steps = slices.Repeat([][]int{{1, 1}}, 41) }, api.ErrArg},
		{func(m *api.Model, w *witness.Witness) { w.State[2] = 3; w.State[0] = 1 }, api.ErrArg},
		{func(m *api.Model, w *witness.Witness) { w.State[0] = -1 }, api.ErrArg},
		{func(m *api.Model, w *witness.Witness) { w.Steps[1][1] = 3 }, api.ErrArg},
		{func(m *api.Model, w *witness.Witness) { w.State[0] = 1 }, api.ErrState},
		{func(m *api.Model, w *witness.Witness) { w.State[1] = 0 }, api.ErrState},
	} {
		m, w := toggle(), good()
		x.change(&m, &w)
		if e := witness.Fits(m, w); e != x.e {
			t.Error(i, e, x.e)
		}
		state, seq, e := witness.Start(m, w)
		if e != x.e || e != api.OK && (state != nil || seq != nil) {
			t.Error(i, state, seq, e)
		}
		if v, e := witness.Replay(m, w); e != x.e || e != api.OK && v {
			t.Error(i, v, e)
		}
		want := x.e
		if want == api.ErrState {
			want = api.OK
		}
		if u, e := witness.Rename(m, toggle(), w); e != want || e != api.OK && !witness.Same(u, witness.Witness{}) {
			t.Error(i, u, e)
		}
	}
}

func TestStart(t *testing.T) {
	state, seq, e := witness.Start(toggle(), witness.Witness{State: []int{2, 2, 2}, Steps: [][]int{{0, 2}, {1, 1}}})
	if !slices.Equal(state, []bool{false, true, false}) || e != api.OK || len(seq) != 2 ||
		!slices.Equal(seq[0], []bool{false, false}) || !slices.Equal(seq[1], []bool{true, true}) {
		t.Error(state, seq, e)
	}
	state, _, _ = witness.Start(toggle(), witness.Witness{State: []int{0, 1, 1}, Steps: [][]int{{0, 0}}})
	if !slices.Equal(state, []bool{false, true, true}) {
		t.Error(state)
	}
}

func TestReplay(t *testing.T) {
	for _, x := range []struct {
		s    string
		want bool
	}{
		{"1\nb0\n010\n10\n.\n", false},
		{"1\nb0\n010\n01\n10\n.\n", true},
		{"1\nb0\n010\n01\n1x\n.\n", true},
		{"1\nb0\n010\n01\n1x\n00\n.\n", false},
		{"1\nb0\n010\n01\n00\n10\n.\n", true},
		{"1\nb0\n010\n01\n01\n10\n.\n", false},
		{"1\nb1\n010\n01\n00\n.\n", true},
		{"1\nb2\n010\n00\n.\n", true},
		{"1\nb2\n01x\n00\n.\n", true},
		{"1\nb2\n011\n00\n.\n", false},
	} {
		w, f := witness.Parse(x.s)
		if v, e := witness.Replay(toggle(), w); v != x.want || e != api.OK || f != (api.Fail{}) {
			t.Errorf("%q: %v %v %v", x.s, v, e, f)
		}
	}
}

func TestRename(t *testing.T) {
	from := toggle()
	to := api.Model{
		Graph:  api.Graph{Ins: 2, Next: []int{0, 0, 0}, Init: []int{1, 1, 1}, Outs: []int{10, 0, 1}},
		Inputs: []string{"b", "a"}, Latches: []string{"r", "p", "q"}, Outputs: []string{"q", "nr", "z"},
	}
	w := witness.Witness{Bad: 0, State: []int{0, 1, 2}, Steps: [][]int{{0, 1}, {2, 0}}}
	want := witness.Witness{Bad: 2, State: []int{2, 1, 0}, Steps: [][]int{{1, 0}, {0, 2}}}
	u, e := witness.Rename(from, to, w)
	if !witness.Same(u, want) || e != api.OK {
		t.Error(u, e)
	}
	if v, e := witness.Rename(to, from, u); !witness.Same(v, w) || e != api.OK {
		t.Error(v, e)
	}
	u.State[0], u.Steps[0][0] = 9, 9
	if w.State[2] != 2 || w.Steps[0][1] != 1 {
		t.Error("Rename shares memory with the witness")
	}
	for i, change := range []func(m *api.Model){
		func(m *api.Model) { m.Inputs[0] = "c" },
		func(m *api.Model) { m.Latches[0] = "c" },
		func(m *api.Model) { m.Outputs[1] = "c" },
		func(m *api.Model) { m.Inputs, m.Graph.Ins = m.Inputs[1:], 1; m.Graph.Outs[0] = 8 },
		func(m *api.Model) { m.Outputs, m.Graph.Outs = append(m.Outputs, "c"), append(m.Graph.Outs, 0) },
	} {
		bad := to
		bad.Inputs, bad.Latches, bad.Outputs = slices.Clone(to.Inputs), slices.Clone(to.Latches), slices.Clone(to.Outputs)
		bad.Graph.Outs = slices.Clone(to.Graph.Outs)
		change(&bad)
		if e := lower.Check(bad); e != api.OK {
			t.Fatal(i, e)
		}
		if u, e := witness.Rename(from, bad, w); !witness.Same(u, witness.Witness{}) || e != api.ErrUnknown {
			t.Error(i, u, e)
		}
		if u, e := witness.Rename(from, bad, witness.Witness{}); !witness.Same(u, witness.Witness{}) || e != api.ErrArg {
			t.Error(i, u, e)
		}
	}
	bad := toggle()
	bad.Outputs[0] = ""
	if u, e := witness.Rename(bad, api.Model{Inputs: []string{"x"}}, w); !witness.Same(u, witness.Witness{}) || e != api.ErrName {
		t.Error(u, e)
	}
	if u, e := witness.Rename(from, bad, witness.Witness{}); !witness.Same(u, witness.Witness{}) || e != api.ErrName {
		t.Error(u, e)
	}
}

func TestSame(t *testing.T) {
	a := func() witness.Witness { return witness.Witness{Bad: 1, State: []int{0}, Steps: [][]int{{1}, {}}} }
	if !witness.Same(a(), a()) || !witness.Same(witness.Witness{}, witness.Witness{State: []int{}, Steps: [][]int{}}) {
		t.Error("alike, and told not to be")
	}
	for i, change := range []func(w *witness.Witness){
		func(w *witness.Witness) { w.Bad = 0 },
		func(w *witness.Witness) { w.State[0] = 1 },
		func(w *witness.Witness) { w.Steps[0][0] = 2 },
		func(w *witness.Witness) { w.Steps = w.Steps[:1] },
		func(w *witness.Witness) { w.Steps[1] = []int{0} },
	} {
		w := a()
		change(&w)
		if witness.Same(a(), w) || witness.Same(w, a()) {
			t.Error(i)
		}
	}
}

// shuffled is a model that is the same machine, in another order of everything.
func shuffled(r *rand.Rand, m api.Model) api.Model {
	g := m.Graph
	ins, latches, outs := r.Perm(g.Ins), r.Perm(len(g.Next)), r.Perm(len(g.Outs))
	to := make([]int, 1+g.Ins+len(g.Next)+len(g.Ands))
	for i := range to {
		to[i] = i
	}
	var n api.Model
	n.Graph.Ins = g.Ins
	for i, j := range ins {
		to[1+j] = 1 + i
		n.Inputs = append(n.Inputs, m.Inputs[j])
	}
	for i, j := range latches {
		to[1+g.Ins+j] = 1 + g.Ins + i
		n.Latches = append(n.Latches, m.Latches[j])
		n.Graph.Init = append(n.Graph.Init, g.Init[j])
	}
	lit := func(l int) int { return 2*to[l/2] + l%2 }
	for _, j := range latches {
		n.Graph.Next = append(n.Graph.Next, lit(g.Next[j]))
	}
	for _, a := range g.Ands {
		n.Graph.Ands = append(n.Graph.Ands, [2]int{lit(a[1]), lit(a[0])})
	}
	for _, j := range outs {
		n.Outputs, n.Graph.Outs = append(n.Outputs, m.Outputs[j]), append(n.Graph.Outs, lit(g.Outs[j]))
	}
	return n
}

func randomWitness(r *rand.Rand, m api.Model) witness.Witness {
	w := witness.Witness{Bad: r.Intn(len(m.Outputs))}
	for _, init := range m.Graph.Init {
		v := []int{init, 2}[r.Intn(2)]
		if init == 2 {
			v = r.Intn(3)
		}
		w.State = append(w.State, v)
	}
	for range 1 + r.Intn(4) {
		var row []int
		for range m.Inputs {
			row = append(row, r.Intn(3))
		}
		w.Steps = append(w.Steps, row)
	}
	return w
}

func TestRenamedIsOneOfTheSameMachine(t *testing.T) {
	r := rand.New(rand.NewSource(18))
	size := sample.Size{Inputs: [2]int{0, 2}, Latches: [2]int{0, 3}, Gates: [2]int{0, 9}, Outputs: [2]int{1, 4}}
	trues := 0
	for range 1000 {
		m := sample.Model(r.Intn, size, "(in", "#", "l")
		n := shuffled(r, m)
		w := randomWitness(r, m)
		v, e := witness.Replay(m, w)
		if e != api.OK || lower.Check(n) != api.OK {
			t.Fatal(m, w, e)
		}
		u, e := witness.Rename(m, n, w)
		if got, err := witness.Replay(n, u); got != v || e != api.OK || err != api.OK {
			t.Fatal(m, n, w, u, v, e)
		}
		s, _ := witness.Print(u)
		if back, f := witness.Parse(s); !witness.Same(back, u) || f != (api.Fail{}) {
			t.Fatal(s)
		}
		if v {
			trues++
		}
	}
	if trues < 100 {
		t.Error("too few came true:", trues)
	}
}

func TestWitnessOfATranslation(t *testing.T) {
	r := rand.New(rand.NewSource(19))
	size := sample.Size{Inputs: [2]int{0, 2}, Latches: [2]int{0, 3}, Gates: [2]int{0, 9}, Outputs: [2]int{1, 4}}
	limits := api.Limits{Bytes: api.MaxBytes, Nets: api.MaxNets}
	for range 50 {
		m := sample.Model(r.Intn, size, "(in", "#", "l")
		s, _ := trans.Put(api.FmtAag, m)
		was, _ := trans.Denote(api.FmtAag, s)
		for to := api.FmtAag; to <= api.FmtVerilog; to++ {
			text, f := trans.Translate(s, api.FmtAag, to, limits, false)
			n, g := trans.Denote(to, text)
			if f != (api.Fail{}) || g != (api.Fail{}) {
				t.Fatal(s, f, g)
			}
			w := randomWitness(r, n)
			v, _ := witness.Replay(n, w)
			u, e := witness.Rename(n, was, w)
			if got, err := witness.Replay(was, u); got != v || e != api.OK || err != api.OK {
				t.Fatal(s, text, w)
			}
			back, e := witness.Rename(was, n, u)
			if !witness.Same(back, w) || e != api.OK || !aig.Strict(n.Graph) {
				t.Fatal(back, w)
			}
		}
	}
}

func FuzzParse(f *testing.F) {
	f.Add("1\nb0\n01x\n01x\n\n.\n")
	f.Fuzz(func(t *testing.T, s string) {
		w, fail := witness.Parse(s)
		if fail == (api.Fail{}) {
			if back, e := witness.Print(w); back != s || e != api.OK {
				t.Error(back)
			}
		} else if !witness.Same(w, witness.Witness{}) || fail.Err != api.ErrSyntax && fail.Err != api.ErrNumber {
			t.Error(w, fail)
		}
	})
}
