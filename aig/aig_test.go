package aig_test

import (
	"math"
	"math/rand"
	"slices"
	"testing"

	"patchbay/aig"
	"patchbay/api"
	"patchbay/sample"
)

// toggle has an input 1, a latch 2, and ands 3 to 5 that are an exclusive or of both.
func toggle() api.Graph {
	return api.Graph{Ins: 1, Next: []int{11}, Init: []int{2}, Ands: [][2]int{{5, 2}, {4, 3}, {9, 7}}, Outs: []int{4, 10, 1}}
}

func TestCheck(t *testing.T) {
	for i, x := range []struct {
		g api.Graph
		e api.Errno
	}{
		{api.Graph{}, api.OK},
		{toggle(), api.OK},
		{api.Graph{Ins: 4000, Outs: make([]int, 4000)}, api.OK},
		{api.Graph{Ins: 3998, Next: []int{0}, Init: []int{0}, Ands: make([][2]int, 1), Outs: []int{8001}}, api.OK},
		{api.Graph{Ins: -1}, api.ErrLimit},
		{api.Graph{Ins: math.MinInt}, api.ErrLimit},
		{api.Graph{Ins: math.MaxInt, Ands: make([][2]int, 1)}, api.ErrLimit},
		{api.Graph{Ins: 4001}, api.ErrLimit},
		{api.Graph{Ins: 3999, Next: []int{0}, Ands: make([][2]int, 1)}, api.ErrLimit},
		{api.Graph{Ins: -1, Next: []int{0}}, api.ErrLimit},
		{api.Graph{Outs: make([]int, 4001)}, api.ErrLimit},
		{api.Graph{Next: []int{0}}, api.ErrArg},
		{api.Graph{Init: []int{0}}, api.ErrArg},
		{api.Graph{Next: []int{0}, Init: []int{3}}, api.ErrArg},
		{api.Graph{Next: []int{0}, Init: []int{-1}}, api.ErrArg},
		{api.Graph{Ins: 1, Ands: [][2]int{{3, 3}}}, api.OK},
		{api.Graph{Ins: 1, Ands: [][2]int{{4, 3}}}, api.ErrArg},
		{api.Graph{Ins: 1, Ands: [][2]int{{3, 4}}}, api.ErrArg},
		{api.Graph{Ins: 1, Ands: [][2]int{{-1, 3}}}, api.ErrArg},
		{api.Graph{Ins: 1, Ands: [][2]int{{3, -1}}}, api.ErrArg},
		{api.Graph{Ins: 1, Ands: [][2]int{{2, 2}, {5, 4}}}, api.OK},
		{api.Graph{Ins: 1, Ands: [][2]int{{2, 2}, {6, 4}}}, api.ErrArg},
		{api.Graph{Ins: 1, Outs: []int{3, 0}}, api.OK},
		{api.Graph{Ins: 1, Outs: []int{4}}, api.ErrArg},
		{api.Graph{Ins: 1, Outs: []int{-1}}, api.ErrArg},
		{api.Graph{Next: []int{3}, Init: []int{0}}, api.OK},
		{api.Graph{Next: []int{4}, Init: []int{0}}, api.ErrArg},
		{api.Graph{Next: []int{-1}, Init: []int{0}}, api.ErrArg},
	} {
		if e := aig.Check(x.g); e != x.e {
			t.Error(i, e, x.e)
		}
		if x.e == api.OK {
			continue
		}
		if g, lit, e := aig.And(x.g, 0, -5); !aig.Same(g, api.Graph{}) || lit != 0 || e != x.e {
			t.Error("And", i, g, lit, e)
		}
		if g, e := aig.Normal(x.g); !aig.Same(g, api.Graph{}) || e != x.e {
			t.Error("Normal", i, g, e)
		}
		if l, e := aig.Values(x.g, nil, make([]bool, 7)); l != nil || e != x.e {
			t.Error("Values", i, l, e)
		}
		if l, m, e := aig.Step(x.g, nil, make([]bool, 7)); l != nil || m != nil || e != x.e {
			t.Error("Step", i, l, m, e)
		}
		if aig.Strict(x.g) {
			t.Error("Strict", i)
		}
	}
}

func TestAnd(t *testing.T) {
	g := toggle()
	for _, x := range []struct{ a, b, lit int }{
		{4, 0, 0}, {1, 0, 0}, {0, 0, 0}, {4, 1, 4}, {5, 1, 5}, {1, 1, 1}, {4, 4, 4}, {5, 5, 5}, {4, 5, 0}, {10, 11, 0},
		{5, 2, 6}, {4, 3, 8}, {9, 7, 10},
	} {
		for _, y := range [][2]int{{x.a, x.b}, {x.b, x.a}} {
			if h, lit, e := aig.And(g, y[0], y[1]); !aig.Same(g, h) || lit != x.lit || e != api.OK {
				t.Error(y, h, lit, e)
			}
		}
	}
	for _, y := range [][2]int{{4, 2}, {2, 4}, {11, 3}} {
		h, lit, e := aig.And(g, y[0], y[1])
		want := toggle()
		want.Ands = append(want.Ands, [2]int{max(y[0], y[1]), min(y[0], y[1])})
		if !aig.Same(h, want) || lit != 12 || e != api.OK {
			t.Error(y, h, lit, e)
		}
	}
	for _, y := range [][2]int{{12, 0}, {0, 12}, {-1, 0}, {0, -1}, {math.MaxInt, 2}, {math.MinInt, 2}} {
		if h, lit, e := aig.And(g, y[0], y[1]); !aig.Same(h, api.Graph{}) || lit != 0 || e != api.ErrArg {
			t.Error(y, h, lit, e)
		}
	}
}

func TestAndFindsOnlyThisOrder(t *testing.T) {
	g := api.Graph{Ins: 2, Ands: [][2]int{{2, 4}, {4, 2}, {4, 2}}}
	if _, lit, _ := aig.And(g, 2, 4); lit != 8 {
		t.Error(lit)
	}
	g.Ands = g.Ands[:1]
	if h, lit, _ := aig.And(g, 2, 4); lit != 8 || len(h.Ands) != 2 {
		t.Error(h, lit)
	}
}

func TestAndOfFull(t *testing.T) {
	g := api.Graph{Ins: 3999, Ands: [][2]int{{4, 2}}}
	if h, lit, e := aig.And(g, 6, 2); !aig.Same(h, api.Graph{}) || lit != 0 || e != api.ErrLimit {
		t.Error(lit, e)
	}
	if _, lit, e := aig.And(g, 4, 2); lit != 8000 || e != api.OK {
		t.Error(lit, e)
	}
	if _, lit, e := aig.And(g, 5, 4); lit != 0 || e != api.OK {
		t.Error(lit, e)
	}
}

func TestAndSharesNothing(t *testing.T) {
	g := toggle()
	g.Ands = append(make([][2]int, 0, 10), g.Ands...)
	h, _, _ := aig.And(g, 4, 2)
	i, _, _ := aig.And(g, 5, 3)
	h.Next[0], h.Init[0], h.Outs[0], h.Ands[0][0] = 0, 0, 0, 0
	if h.Ands[3] != [2]int{4, 2} || i.Ands[3] != [2]int{5, 3} || !aig.Same(g, toggle()) {
		t.Error(g, h, i)
	}
}

func TestNormal(t *testing.T) {
	for i, x := range []struct{ g, want api.Graph }{
		{toggle(), toggle()},
		{
			api.Graph{Ins: 2, Ands: [][2]int{{2, 4}, {4, 2}, {6, 8}, {2, 2}, {13, 12}, {1, 5}, {9, 3}}, Outs: []int{10, 13, 15, 17}},
			api.Graph{Ins: 2, Ands: [][2]int{{4, 2}}, Outs: []int{6, 3, 1, 4}},
		},
		{
			api.Graph{Ins: 2, Ands: [][2]int{{4, 2}, {5, 3}, {4, 3}, {8, 2}}, Next: nil, Outs: []int{9, 2}},
			api.Graph{Ins: 2, Ands: [][2]int{{5, 3}}, Outs: []int{7, 2}},
		},
		{
			api.Graph{Ins: 1, Next: []int{9, 5}, Init: []int{1, 2}, Ands: [][2]int{{2, 4}, {6, 2}, {8, 6}}, Outs: nil},
			api.Graph{Ins: 1, Next: []int{9, 5}, Init: []int{1, 2}, Ands: [][2]int{{4, 2}}},
		},
	} {
		h, e := aig.Normal(x.g)
		if !aig.Same(h, x.want) || e != api.OK {
			t.Error(i, h, e)
		}
	}
}

// topOf is the greatest number of a graph, andsFrom the number that the first and has.
func topOf(g api.Graph) int { return g.Ins + len(g.Next) + len(g.Ands) }

func andsFrom(g api.Graph) int { return 1 + g.Ins + len(g.Next) }

func copied(g api.Graph) api.Graph {
	g.Next, g.Init, g.Ands, g.Outs = slices.Clone(g.Next), slices.Clone(g.Init), slices.Clone(g.Ands), slices.Clone(g.Outs)
	return g
}

// normalSlowly makes ands by And, as the document has it, and then leaves out, one by one, what nothing leads to.
func normalSlowly(g api.Graph) api.Graph {
	h := api.Graph{Ins: g.Ins, Next: make([]int, len(g.Next)), Init: g.Init}
	var to []int
	for n := range andsFrom(g) {
		to = append(to, 2*n)
	}
	at := func(lit int) int { return to[lit/2] ^ lit&1 }
	for _, and := range g.Ands {
		var lit int
		h, lit, _ = aig.And(h, at(and[0]), at(and[1]))
		to = append(to, lit)
	}
	for i, lit := range g.Next {
		h.Next[i] = at(lit)
	}
	for _, lit := range g.Outs {
		h.Outs = append(h.Outs, at(lit))
	}
	for i := len(h.Ands) - 1; i >= 0; i-- {
		n := andsFrom(h) + i
		used := func(lit int) bool { return lit/2 == n }
		if slices.ContainsFunc(h.Next, used) || slices.ContainsFunc(h.Outs, used) || slices.ContainsFunc(h.Ands, func(a [2]int) bool { return used(a[0]) || used(a[1]) }) {
			continue
		}
		h.Ands = slices.Delete(h.Ands, i, i+1)
		down := func(lit *int) {
			if *lit/2 > n {
				*lit -= 2
			}
		}
		for j := range h.Ands {
			down(&h.Ands[j][0])
			down(&h.Ands[j][1])
		}
		for j := range h.Next {
			down(&h.Next[j])
		}
		for j := range h.Outs {
			down(&h.Outs[j])
		}
	}
	return h
}

func TestNormalHolds(t *testing.T) {
	r := rand.New(rand.NewSource(2))
	size := sample.Size{Inputs: [2]int{0, 3}, Latches: [2]int{0, 2}, Gates: [2]int{0, 11}, Outputs: [2]int{0, 3}}
	for range 2000 {
		g := sample.Model(r.Intn, size, "x").Graph
		was := copied(g)
		h, e := aig.Normal(g)
		if e != api.OK || !aig.Strict(h) || !aig.Same(g, was) || !aig.Same(h, normalSlowly(g)) {
			t.Fatal(g, h, e, normalSlowly(g))
		}
		if again, _ := aig.Normal(h); !aig.Same(h, again) {
			t.Fatal(h, again)
		}
		if aig.Strict(g) != aig.Same(g, h) {
			t.Fatal("Strict", g, h)
		}
		for x := range 1 << (g.Ins + len(g.Next)) {
			ins, state := sample.Bits(x, g.Ins), sample.Bits(x>>g.Ins, len(g.Next))
			a, m, _ := aig.Step(g, state, ins)
			b, n, _ := aig.Step(h, state, ins)
			if !slices.Equal(a, b) || !slices.Equal(m, n) {
				t.Fatal(g, h, state, ins)
			}
		}
	}
}

func TestNormalSharesNothing(t *testing.T) {
	g := toggle()
	h, _ := aig.Normal(g)
	h.Next[0], h.Init[0], h.Outs[0], h.Ands[0][0] = 0, 0, 0, 0
	if !aig.Same(g, toggle()) {
		t.Error(g)
	}
}

func TestStrict(t *testing.T) {
	for i, x := range []struct {
		g    api.Graph
		want bool
	}{
		{api.Graph{}, true},
		{toggle(), true},
		{api.Graph{Ins: 2, Ands: [][2]int{{4, 2}}}, false},
		{api.Graph{Ins: 2, Ands: [][2]int{{4, 2}}, Outs: []int{6}}, true},
		{api.Graph{Ins: 1, Next: []int{7}, Init: []int{0}, Ands: [][2]int{{4, 2}}}, true},
		{api.Graph{Ins: 2, Ands: [][2]int{{2, 4}}, Outs: []int{6}}, false},
		{api.Graph{Ins: 2, Ands: [][2]int{{4, 4}}, Outs: []int{6}}, false},
		{api.Graph{Ins: 2, Ands: [][2]int{{5, 4}}, Outs: []int{6}}, false},
		{api.Graph{Ins: 2, Ands: [][2]int{{4, 1}}, Outs: []int{6}}, false},
		{api.Graph{Ins: 2, Ands: [][2]int{{4, 0}}, Outs: []int{6}}, false},
		{api.Graph{Ins: 2, Ands: [][2]int{{4, 2}, {4, 2}}, Outs: []int{6, 8}}, false},
		{api.Graph{Ins: 2, Ands: [][2]int{{4, 2}, {6, 5}}, Outs: []int{9}}, true},
		{api.Graph{Ins: 2, Ands: [][2]int{{4, 2}, {5, 3}}, Outs: []int{6}}, false},
	} {
		if aig.Strict(x.g) != x.want {
			t.Error(i, x.g)
		}
	}
}

func TestValuesAndStep(t *testing.T) {
	g := toggle()
	for x := range 4 {
		in, q := x&1 == 1, x>>1 == 1
		l, e := aig.Values(g, []bool{q}, []bool{in})
		if !slices.Equal(l, []bool{false, in, q, !q && in, q && !in, in == q}) || e != api.OK {
			t.Error(in, q, l, e)
		}
		outs, next, e := aig.Step(g, []bool{q}, []bool{in})
		if !slices.Equal(outs, []bool{q, in == q, true}) || !slices.Equal(next, []bool{in != q}) || e != api.OK {
			t.Error(in, q, outs, next, e)
		}
	}
	for _, x := range [][2][]bool{{nil, {true}}, {{true}, nil}, {{true, true}, {true}}, {{true}, {true, true}}} {
		if l, e := aig.Values(g, x[0], x[1]); l != nil || e != api.ErrState {
			t.Error(l, e)
		}
		if l, m, e := aig.Step(g, x[0], x[1]); l != nil || m != nil || e != api.ErrState {
			t.Error(l, m, e)
		}
	}
}

func TestSame(t *testing.T) {
	if !aig.Same(toggle(), toggle()) || !aig.Same(api.Graph{}, api.Graph{Next: []int{}, Outs: []int{}}) {
		t.Error("alike, and told not to be")
	}
	for i, change := range []func(g *api.Graph){
		func(g *api.Graph) { g.Ins = 2 },
		func(g *api.Graph) { g.Next[0] = 0 },
		func(g *api.Graph) { g.Init[0] = 0 },
		func(g *api.Graph) { g.Ands[1] = [2]int{3, 4} },
		func(g *api.Graph) { g.Ands = g.Ands[:2] },
		func(g *api.Graph) { g.Outs[1] = 11 },
	} {
		g := toggle()
		change(&g)
		if aig.Same(g, toggle()) || aig.Same(toggle(), g) {
			t.Error(i)
		}
	}
}
