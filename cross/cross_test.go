package cross_test

import (
	"math"
	"math/rand"
	"slices"
	"strconv"
	"testing"

	"patchbay/aig"
	"patchbay/api"
	"patchbay/cross"
	"patchbay/lower"
	"patchbay/sample"
)

// two models of the inputs a and b, of a latch q that both have, and of the outputs y and z.
func two() (api.Model, api.Model) {
	first := api.Model{
		Graph:  api.Graph{Ins: 2, Next: []int{10, 6}, Init: []int{2, 0}, Ands: [][2]int{{6, 4}, {2, 2}}, Outs: []int{10, 11}},
		Inputs: []string{"a", "b"}, Latches: []string{"q", "p"}, Outputs: []string{"y", "z"},
	}
	second := api.Model{
		Graph:  api.Graph{Ins: 2, Next: []int{8, 13}, Init: []int{2, 1}, Ands: [][2]int{{8, 2}, {5, 3}}, Outs: []int{13, 10}},
		Inputs: []string{"b", "a"}, Latches: []string{"r", "q"}, Outputs: []string{"z", "y"},
	}
	return first, second
}

func TestJoin(t *testing.T) {
	a, b := two()
	m, match, e := cross.Join(a, b)
	// a's inputs 1 and 2; q and p are 3 and 4, r and b's q 5 and 6; a's and is 7, b's are 8 and 9.
	want := cross.Miter{
		Graph: api.Graph{
			Ins: 2, Next: []int{14, 6, 12, 19}, Init: []int{1, 0, 2, 1},
			Ands: [][2]int{{6, 4}, {12, 4}, {3, 5}, {17, 14}, {16, 15}, {23, 21}, {18, 15}, {19, 14}, {29, 27}},
			Outs: []int{25, 31},
		},
		Begin: []int{1, 0, 2, 1}, Pairs: [][2]int{{3, 6}},
	}
	if !aig.Same(m.Graph, want.Graph) || !slices.Equal(m.Begin, want.Begin) || !slices.Equal(m.Pairs, want.Pairs) || !match || e != api.OK {
		t.Error(m, match, e)
	}
	m.Begin[0] = 9
	if m.Graph.Init[0] == 9 || a.Graph.Init[0] == 9 {
		t.Error("Begin shares memory")
	}
	m, match, e = cross.Join(b, a)
	if !slices.Equal(m.Begin, []int{2, 1, 1, 0}) || !slices.Equal(m.Pairs, [][2]int{{4, 5}}) || !match || e != api.OK {
		t.Error(m, match, e)
	}
	a.Graph.Init[0] = 0
	m, match, e = cross.Join(a, b)
	if !slices.Equal(m.Begin, []int{0, 0, 2, 1}) || !slices.Equal(m.Graph.Init, m.Begin) || match || e != api.OK {
		t.Error(m, match, e)
	}
	if x, e := cross.Cross(a, b, 40, 1000); !cross.Same(x, cross.Answer{}) || e != api.OK {
		t.Error(x, e)
	}
	b.Graph.Init[1] = 2
	m, match, e = cross.Join(a, b)
	if !slices.Equal(m.Begin, []int{0, 0, 2, 0}) || !match || e != api.OK {
		t.Error(m, match, e)
	}
	q := api.Model{Graph: api.Graph{Next: []int{2}, Init: []int{0}}, Latches: []string{"q"}}
	m, _, _ = cross.Join(q, q)
	m.Begin[0] = 9
	if m.Graph.Init[0] != 0 {
		t.Error("Begin shares memory with the graph")
	}
	if m, match, e = cross.Join(api.Model{}, api.Model{}); !aig.Same(m.Graph, api.Graph{}) || !match || e != api.OK {
		t.Error(m, match, e)
	}
}

func TestWrong(t *testing.T) {
	wide := func(n int) api.Model {
		m := api.Model{Graph: api.Graph{Ins: n}}
		for i := range n {
			m.Inputs = append(m.Inputs, "i"+strconv.Itoa(i))
		}
		return m
	}
	half := func(n, out int) api.Model {
		m := wide(2)
		last := 2
		for i := range n {
			m.Graph.Ands = append(m.Graph.Ands, [2]int{last + i%2, 4})
			last = 2 * (2 + len(m.Graph.Ands))
		}
		m.Outputs, m.Graph.Outs = []string{"z"}, []int{last + out}
		return m
	}
	latches := func(ins, many, ands int) api.Model {
		m := wide(ins)
		for i := range many {
			m.Latches = append(m.Latches, "q"+strconv.Itoa(i))
			m.Graph.Next, m.Graph.Init = append(m.Graph.Next, 0), append(m.Graph.Init, 0)
		}
		for i := range ands {
			m.Graph.Ands = append(m.Graph.Ands, [2]int{4 + 2*i, 2})
			m.Graph.Next[i] = 2 * (1 + ins + many + i)
		}
		return m
	}
	for i, x := range []struct {
		change func(a, b *api.Model)
		e      api.Errno
	}{
		{func(a, b *api.Model) { a.Outputs[0] = ""; b.Graph.Ins = -1 }, api.ErrName},
		{func(a, b *api.Model) { b.Graph.Ins = -1; b.Inputs = nil }, api.ErrLimit},
		{func(a, b *api.Model) { a.Inputs[0] = "c" }, api.ErrUnknown},
		{func(a, b *api.Model) { b.Outputs[0] = "c" }, api.ErrUnknown},
		{func(a, b *api.Model) { *b = wide(2) }, api.ErrUnknown},
		{func(a, b *api.Model) { *a, *b = wide(4000), wide(4000) }, api.OK},
		{func(a, b *api.Model) { *a, *b = half(1997, 0), half(1998, 1) }, api.OK},
		{func(a, b *api.Model) { *a, *b = half(1998, 0), half(1998, 1) }, api.ErrLimit},
		{func(a, b *api.Model) { *a, *b = half(1999, 0), half(2000, 0) }, api.ErrLimit},
		{func(a, b *api.Model) { *a, *b = half(1999, 0), half(1999, 0) }, api.ErrLimit},
		{func(a, b *api.Model) { *a, *b = half(1998, 0), half(1999, 0) }, api.ErrLimit},
		{func(a, b *api.Model) { *a, *b = latches(1000, 1000, 0), latches(1000, 1000, 0) }, api.OK}, // 3000 of both
		{func(a, b *api.Model) { *a, *b = latches(2000, 1000, 0), latches(2000, 1000, 0) }, api.OK},
		{func(a, b *api.Model) { *a, *b = latches(2000, 1001, 0), latches(2000, 1000, 0) }, api.ErrLimit},
		{func(a, b *api.Model) { *a, *b = latches(2000, 1000, 0), latches(2000, 1001, 0) }, api.ErrLimit},
		{func(a, b *api.Model) { *a, *b = latches(2001, 1000, 0), latches(2001, 1000, 0) }, api.ErrLimit},
		{func(a, b *api.Model) { *a, *b = latches(2000, 999, 1), latches(2000, 999, 1) }, api.OK},
		{func(a, b *api.Model) { *a, *b = latches(2000, 999, 2), latches(2000, 999, 1) }, api.ErrLimit},
		{func(a, b *api.Model) { *a, *b = latches(2000, 999, 1), latches(2000, 999, 2) }, api.ErrLimit},
	} {
		a, b := two()
		x.change(&a, &b)
		m, match, e := cross.Join(a, b)
		if e != x.e || e != api.OK && (match || !aig.Same(m.Graph, api.Graph{}) || m.Begin != nil || m.Pairs != nil) {
			t.Error(i, e, x.e)
		}
		if e == api.OK {
			continue
		}
		if y, e := cross.Cross(a, b, 99, 10); !cross.Same(y, cross.Answer{}) || e != x.e {
			t.Error(i, y, e)
		}
		if v, e := cross.Replay(a, b, cross.Answer{Out: -1}); v || e != x.e {
			t.Error(i, v, e)
		}
	}
	a, b := two()
	for _, k := range []int{-1, 41, math.MinInt, math.MaxInt} {
		if y, e := cross.Cross(a, b, k, 10); !cross.Same(y, cross.Answer{}) || e != api.ErrLimit {
			t.Error(k, y, e)
		}
	}
}

func TestCross(t *testing.T) {
	a, b := two()
	x, e := cross.Cross(a, b, 0, 10)
	if !cross.Same(x, cross.Answer{}) || e != api.OK {
		t.Error(x, e)
	}
	x, e = cross.Cross(a, b, 3, 1000)
	if x.Res != 1 || e != api.OK || len(x.Seq) != 1 || len(x.A) != 2 || len(x.B) != 2 || !x.A[0] || x.A[1] || !x.B[1] {
		t.Error(x, e)
	}
	if v, e := cross.Replay(a, b, x); !v || e != api.OK {
		t.Error(v, e)
	}
	if x, e := cross.Cross(a, a, 10, 1000); x.Res != 0 || e != api.OK {
		t.Error(x, e)
	}
	if x, e := cross.Cross(api.Model{}, api.Model{}, 40, 0); !cross.Same(x, cross.Answer{}) || e != api.OK {
		t.Error(x, e)
	}
}

func TestFirstOutputThatDiffers(t *testing.T) {
	a := api.Model{Graph: api.Graph{Ins: 1, Outs: []int{2, 0, 1, 3}}, Inputs: []string{"i"}, Outputs: []string{"w", "x", "y", "z"}}
	b := api.Model{Graph: api.Graph{Ins: 1, Outs: []int{0, 1, 2, 1}}, Inputs: []string{"i"}, Outputs: []string{"z", "y", "w", "x"}}
	x, e := cross.Cross(a, b, 5, 10)
	if x.Res != 1 || x.Out != 1 || len(x.Seq) != 1 || e != api.OK {
		t.Error(x, e)
	}
	if v, e := cross.Replay(a, b, x); !v || e != api.OK {
		t.Error(v, e)
	}
}

func TestInputsAreTold(t *testing.T) {
	a := api.Model{Graph: api.Graph{Ins: 3, Ands: [][2]int{{6, 5}}, Outs: []int{8}}, Inputs: []string{"i", "j", "k"}, Outputs: []string{"z"}}
	b := api.Model{Graph: api.Graph{Ins: 3, Outs: []int{0}}, Inputs: []string{"k", "j", "i"}, Outputs: []string{"z"}}
	x, e := cross.Cross(a, b, 2, 10)
	if x.Res != 1 || len(x.Seq) != 1 || len(x.Seq[0]) != 3 || x.Seq[0][1] || !x.Seq[0][2] || e != api.OK {
		t.Error(x, e)
	}
}

func TestReplayOfManySteps(t *testing.T) {
	a := api.Model{Graph: api.Graph{Outs: []int{0}}, Outputs: []string{"z"}}
	b := api.Model{Graph: api.Graph{Outs: []int{1}}, Outputs: []string{"z"}}
	if v, e := cross.Replay(a, b, cross.Answer{Seq: make([][]bool, 40)}); !v || e != api.OK {
		t.Error(v, e)
	}
	if v, e := cross.Replay(a, b, cross.Answer{Seq: make([][]bool, 41)}); v || e != api.ErrArg {
		t.Error(v, e)
	}
}

func TestReplay(t *testing.T) {
	a, b := two()
	good, _ := cross.Cross(a, b, 1, 100)
	for i, change := range []func(x *cross.Answer){
		func(x *cross.Answer) { x.Out = 2 },
		func(x *cross.Answer) { x.Out = -1 },
		func(x *cross.Answer) { x.Seq = nil },
		func(x *cross.Answer) { x.Seq = slices.Repeat(x.Seq, 41) },
		func(x *cross.Answer) { x.Seq = append(slices.Clone(x.Seq), []bool{true}) },
		func(x *cross.Answer) { x.A = x.A[1:] },
		func(x *cross.Answer) { x.B = append(slices.Clone(x.B), true) },
	} {
		x := good
		change(&x)
		if v, e := cross.Replay(a, b, x); v || e != api.ErrArg {
			t.Error(i, v, e)
		}
	}
	// y of the first one is q and b; of the second one q and b, too; z is that turned, and a or b.
	for i, x := range []struct {
		x    cross.Answer
		want bool
	}{
		{cross.Answer{Out: 0, A: []bool{true, false}, B: []bool{true, true}, Seq: [][]bool{{true, true}}}, false},
		{cross.Answer{Out: 1, A: []bool{true, false}, B: []bool{true, true}, Seq: [][]bool{{true, true}}}, true},
		{cross.Answer{Out: 1, A: []bool{true, false}, B: []bool{false, true}, Seq: [][]bool{{true, true}}}, true},
		{cross.Answer{Out: 1, A: []bool{true, false}, B: []bool{true, true}, Seq: [][]bool{{true, false}}}, false},
		{cross.Answer{Out: 1, A: []bool{true, false}, B: []bool{true, true}, Seq: [][]bool{{false, false}}}, true},
		{cross.Answer{Out: 1, A: []bool{false, false}, B: []bool{true, true}, Seq: [][]bool{{true, true}}}, false},
		{cross.Answer{Out: 1, A: []bool{true, true}, B: []bool{true, true}, Seq: [][]bool{{true, true}}}, false},
		{cross.Answer{Out: 1, A: []bool{false, false}, B: []bool{true, false}, Seq: [][]bool{{false, false}}}, false},
	} {
		if v, e := cross.Replay(a, b, x.x); v != x.want || e != api.OK {
			t.Error(i, v, e)
		}
	}
}

// randomModel has one input and two outputs, of the same names always, and some of four latches.
func randomModel(r *rand.Rand) api.Model {
	m := sample.Model(r.Intn, sample.Size{Inputs: [2]int{1, 1}, Latches: [2]int{0, 3}, Gates: [2]int{0, 7}, Outputs: [2]int{2, 2}}, "x")
	for i, j := range r.Perm(4)[:len(m.Latches)] {
		m.Latches[i] = "q" + strconv.Itoa(j)
	}
	if r.Intn(2) == 0 {
		slices.Reverse(m.Outputs)
	}
	return m
}

// differAt is the least number of steps in which two machines may differ; 0, if they do not in k.
func differAt(a, b api.Model, k int) int {
	for n := 1; n <= k; n++ {
		for x := range 1 << (len(a.Latches) + len(b.Latches)) {
			stateA, stateB := sample.Bits(x, len(a.Latches)), sample.Bits(x>>len(a.Latches), len(b.Latches))
			for y := range 1 << n {
				var seq [][]bool
				for i := range n {
					seq = append(seq, []bool{y>>i&1 == 1})
				}
				for out := range a.Outputs {
					if v, _ := cross.Replay(a, b, cross.Answer{Out: out, A: stateA, B: stateB, Seq: seq}); v {
						return n
					}
				}
			}
		}
	}
	return 0
}

func TestOneOfThree(t *testing.T) {
	r := rand.New(rand.NewSource(23))
	var seen [3]int
	for range 700 {
		a, b := randomModel(r), randomModel(r)
		switch r.Intn(3) {
		case 0:
			b = a
			b.Graph.Next = slices.Clone(a.Graph.Next)
			for i := range b.Graph.Next {
				if r.Intn(3) == 0 {
					b.Graph.Next[i] ^= 1
				}
			}
		case 1:
			b.Graph.Outs = []int{a.Graph.Outs[0] % 4, a.Graph.Outs[1] % 4}
			a.Graph.Outs = slices.Clone(b.Graph.Outs)
			b.Outputs = a.Outputs
		}
		if lower.Check(a) != api.OK || lower.Check(b) != api.OK {
			t.Fatal(a, b)
		}
		const k = 3
		want := differAt(a, b, k)
		x, e := cross.Cross(a, b, k, 100000)
		if e != api.OK || (x.Res == 1) != (want > 0) || x.Res == 2 || len(x.Seq) != want {
			t.Fatal(a, b, x, want, e)
		}
		if x.Res == 1 {
			checkDiffer(t, a, b, x)
		}
		seen[x.Res]++
		for budget := range min(x.Conflicts+2, 4) {
			y, e := cross.Cross(a, b, k, budget)
			if e != api.OK || y.Conflicts > budget || y.Res != x.Res && (y.Res != 2 || y.Conflicts != budget) || y.Res == x.Res && !cross.Same(x, y) {
				t.Fatal(a, b, x, y, budget)
			}
			if y.Res == 2 {
				seen[2]++
				if y.A != nil || y.B != nil || y.Seq != nil || y.Out != 0 {
					t.Fatal(y)
				}
			}
		}
	}
	for i, n := range seen {
		if n < 10 {
			t.Error("too few of one kind:", i, seen)
		}
	}
}

// checkDiffer looks whether what is told is replayed, and whether it is the first output that is not the same.
func checkDiffer(t *testing.T, a, b api.Model, x cross.Answer) {
	for out := range x.Out + 1 {
		y := x
		y.Out = out
		if v, e := cross.Replay(a, b, y); v != (out == x.Out) || e != api.OK {
			t.Fatal(a, b, x, out)
		}
	}
}

// parity is the exclusive or of n inputs, in one order or the other.
func parity(n int, back bool) api.Model {
	m := api.Model{Graph: api.Graph{Ins: n}, Outputs: []string{"z"}}
	var order []int
	for i := range n {
		m.Inputs = append(m.Inputs, "i"+strconv.Itoa(i))
		order = append(order, 2*(1+i))
	}
	if back {
		slices.Reverse(order)
	}
	last := order[0]
	for _, lit := range order[1:] {
		g, p, _ := aig.And(m.Graph, last, lit^1)
		g, q, _ := aig.And(g, last^1, lit)
		g, r, _ := aig.And(g, p^1, q^1)
		m.Graph, last = g, r^1
	}
	m.Graph.Outs = []int{last}
	return m
}

func TestUnknown(t *testing.T) {
	a, b := parity(9, false), parity(9, true)
	x, e := cross.Cross(a, b, 4, 7)
	if x.Res != 2 || x.Conflicts != 7 || x.Seq != nil || e != api.OK {
		t.Error(x, e)
	}
	x, e = cross.Cross(a, b, 1, 1000000)
	if x.Res != 0 || x.Conflicts <= 7 || e != api.OK {
		t.Error(x, e)
	}
	// All conflicts of the first step are spent, so that nothing is left for the second one.
	y, e := cross.Cross(a, b, 2, x.Conflicts)
	if y.Res != 2 || y.Conflicts != x.Conflicts || e != api.OK {
		t.Error(y, e)
	}
	if x, e := cross.Cross(a, b, 2, -5); x.Res != 2 || x.Conflicts != 0 || e != api.OK {
		t.Error(x, e)
	}
}

func TestTooManyVariables(t *testing.T) {
	m := api.Model{Graph: api.Graph{Ins: 3990}}
	for i := range 3990 {
		m.Inputs = append(m.Inputs, "i"+strconv.Itoa(i))
	}
	m.Outputs, m.Graph.Outs = []string{"i0"}, []int{2}
	if x, e := cross.Cross(m, m, 5, 10); x.Res != 0 || e != api.OK {
		t.Error(x, e)
	}
	if x, e := cross.Cross(m, m, 6, 10); !cross.Same(x, cross.Answer{}) || e != api.ErrLimit {
		t.Error(x, e)
	}
}

func TestSame(t *testing.T) {
	a := func() cross.Answer {
		return cross.Answer{Res: 1, Out: 1, A: []bool{true}, B: []bool{false}, Seq: [][]bool{{true}}, Conflicts: 3}
	}
	if !cross.Same(a(), a()) || !cross.Same(cross.Answer{}, cross.Answer{A: []bool{}, Seq: [][]bool{}}) {
		t.Error("alike, and told not to be")
	}
	for i, change := range []func(x *cross.Answer){
		func(x *cross.Answer) { x.Res = 0 },
		func(x *cross.Answer) { x.Out = 0 },
		func(x *cross.Answer) { x.A[0] = false },
		func(x *cross.Answer) { x.B = nil },
		func(x *cross.Answer) { x.Seq[0][0] = false },
		func(x *cross.Answer) { x.Seq = nil },
		func(x *cross.Answer) { x.Conflicts = 4 },
	} {
		x := a()
		change(&x)
		if cross.Same(a(), x) || cross.Same(x, a()) {
			t.Error(i)
		}
	}
}
