package cnf_test

import (
	"math"
	"math/rand"
	"slices"
	"testing"

	"patchbay/aig"
	"patchbay/api"
	"patchbay/cnf"
	"patchbay/sample"
)

func clauses(l ...[]int) []api.Clause {
	var all []api.Clause
	for _, c := range l {
		all = append(all, c)
	}
	return all
}

func TestCheck(t *testing.T) {
	for i, x := range []struct {
		l    []api.Clause
		vars int
		e    api.Errno
	}{
		{nil, 0, api.OK}, {nil, 20000, api.OK}, {clauses([]int{}), 0, api.OK}, {clauses([]int{1, -2, 1}, []int{2}), 2, api.OK},
		{make([]api.Clause, 100000), 0, api.OK},
		{nil, -1, api.ErrLimit}, {nil, 20001, api.ErrLimit}, {nil, math.MinInt, api.ErrLimit}, {make([]api.Clause, 100001), 0, api.ErrLimit},
		{clauses([]int{0}), -1, api.ErrLimit},
		{clauses([]int{0}), 2, api.ErrArg}, {clauses([]int{1}, []int{1, 3}), 2, api.ErrArg}, {clauses([]int{-3}), 2, api.ErrArg},
		{clauses([]int{math.MinInt}), 2, api.ErrArg}, {clauses([]int{math.MaxInt}), 2, api.ErrArg}, {clauses([]int{1}), 0, api.ErrArg},
	} {
		if e := cnf.Check(x.l, x.vars); e != x.e {
			t.Error(i, e)
		}
	}
}

func TestTrue(t *testing.T) {
	for i, x := range []struct {
		l      []api.Clause
		values []bool
		want   bool
		e      api.Errno
	}{
		{nil, nil, true, api.OK}, {clauses([]int{}), nil, false, api.OK},
		{clauses([]int{1, -2}, []int{2, 1}), []bool{true, false}, true, api.OK},
		{clauses([]int{1, -2}, []int{2, 1}), []bool{false, true}, false, api.OK},
		{clauses([]int{1, -2}, []int{2, 1}), []bool{false, false}, false, api.OK},
		{clauses([]int{-1}), []bool{false}, true, api.OK},
		{clauses([]int{-1, 1}), []bool{true}, true, api.OK},
		{clauses([]int{1}), nil, false, api.ErrArg},
		{nil, make([]bool, 20001), false, api.ErrLimit},
	} {
		if v, e := cnf.True(x.l, x.values); v != x.want || e != x.e {
			t.Error(i, v, e)
		}
	}
}

// three has an input 1, latches 2 to 4 and ands 5 and 6.
func three() api.Graph {
	return api.Graph{Ins: 1, Next: []int{13, 4, 1}, Init: []int{0, 0, 0}, Ands: [][2]int{{4, 3}, {11, 9}}, Outs: []int{12}}
}

func TestUnroll(t *testing.T) {
	u, e := cnf.Unroll(three(), []int{0, 1, 2}, 2)
	want := cnf.Cnf{
		Vars: 8,
		Clauses: clauses(
			[]int{1},
			[]int{-4, -1}, []int{-4, -3}, []int{4, 1, 3},
			[]int{-5, -4}, []int{-5, -2}, []int{5, 4, 2},
			[]int{-7, -5}, []int{-7, -6}, []int{7, 5, 6},
			[]int{-8, -7}, []int{-8, -1}, []int{8, 7, 1},
		),
		Lits: [][]int{{-1, 3, -1, 1, 2, 4, 5}, {-1, 6, -5, -1, 1, 7, 8}, {-1, 0, -8, -5, 1, 0, 0}},
	}
	if !cnf.Same(u, want) || e != api.OK {
		t.Error(u, e)
	}
	u, e = cnf.Unroll(three(), []int{2, 2, 0}, 0)
	if !cnf.Same(u, cnf.Cnf{Vars: 3, Clauses: clauses([]int{1}), Lits: [][]int{{-1, 0, 2, 3, -1, 0, 0}}}) || e != api.OK {
		t.Error(u, e)
	}
	u, e = cnf.Unroll(api.Graph{}, nil, 0)
	if !cnf.Same(u, cnf.Cnf{Vars: 1, Clauses: clauses([]int{1}), Lits: [][]int{{-1}}}) || e != api.OK {
		t.Error(u, e)
	}
}

func TestUnrollWrong(t *testing.T) {
	wide := api.Graph{Ins: 3999, Ands: [][2]int{{2, 2}}}
	one := api.Graph{Ins: 3998, Next: []int{0}, Init: []int{0}, Ands: [][2]int{{2, 2}}}
	for i, x := range []struct {
		g     api.Graph
		begin []int
		k     int
		e     api.Errno
	}{
		{api.Graph{Ins: -1}, []int{5}, 99, api.ErrLimit},
		{api.Graph{Outs: []int{2}}, []int{5}, 99, api.ErrArg},
		{three(), []int{0, 0}, 99, api.ErrArg}, {three(), []int{0, 0, 0, 0}, 0, api.ErrArg},
		{three(), []int{0, 3, 0}, 99, api.ErrArg}, {three(), []int{0, 0, -1}, 0, api.ErrArg},
		{three(), []int{0, 0, 0}, -1, api.ErrLimit}, {three(), []int{0, 0, 0}, 41, api.ErrLimit}, {three(), []int{0, 0, 0}, math.MaxInt, api.ErrLimit}, {three(), []int{0, 0, 0}, math.MinInt, api.ErrLimit},
		{wide, nil, 5, api.ErrLimit}, {wide, nil, 4, api.OK},
		{api.Graph{Ins: 2857}, nil, 7, api.OK}, {api.Graph{Ins: 2856, Ands: [][2]int{{2, 2}}}, nil, 7, api.OK},
		{api.Graph{Ins: 2857, Next: []int{0}, Init: []int{0}}, []int{1}, 7, api.OK}, {api.Graph{Ins: 2857, Next: []int{0}, Init: []int{0}}, []int{2}, 7, api.ErrLimit},
		{one, []int{2}, 5, api.OK}, {three(), []int{0, 0, 0}, 40, api.OK},
	} {
		u, e := cnf.Unroll(x.g, x.begin, x.k)
		if e != x.e || e != api.OK && !cnf.Same(u, cnf.Cnf{}) {
			t.Error(i, e, u.Vars)
		}
		if x.k < 0 || x.k > 1000 || e == api.OK {
			continue
		}
		if l, e := cnf.Values(x.g, x.begin, nil, make([][]bool, x.k)); l != nil || e != x.e {
			t.Error("Values", i, l, e)
		}
	}
	if u, _ := cnf.Unroll(one, []int{2}, 5); u.Vars != 19997 {
		t.Error(u.Vars)
	}
}

func TestLit(t *testing.T) {
	u := cnf.Cnf{Lits: [][]int{{-1, 7}, {}, {-1, 0, 9}}}
	for _, x := range [][3]int{
		{0, 0, -1}, {0, 1, 1}, {0, 2, 7}, {0, 3, -7}, {0, 4, 0}, {0, -1, 0}, {0, -2, 0}, {0, math.MaxInt, 0}, {0, math.MinInt, 0},
		{1, 0, 0}, {2, 2, 0}, {2, 3, 0}, {2, 5, -9}, {3, 0, 0}, {-1, 0, 0}, {math.MinInt, 0, 0},
	} {
		if got := cnf.Lit(u, x[0], x[1]); got != x[2] {
			t.Error(x, got)
		}
	}
}

func TestValues(t *testing.T) {
	seq := [][]bool{{true}, {false}}
	l, e := cnf.Values(three(), []int{0, 1, 2}, []bool{false, true, true}, seq)
	// The first latch is false, then (the second and being false) true: then the first and is true, as the input is false.
	if !slices.Equal(l, []bool{true, true, true, false, false, false, true, false}) || e != api.OK {
		t.Error(l, e)
	}
	for i, x := range []struct {
		state []bool
		seq   [][]bool
	}{
		{[]bool{false, true}, seq}, {[]bool{false, true, true, true}, seq}, {[]bool{true, true, true}, seq}, {[]bool{false, false, true}, seq},
		{[]bool{false, true, true}, [][]bool{{true}, {}}}, {[]bool{false, true, true}, [][]bool{{true, true}}},
	} {
		if l, e := cnf.Values(three(), []int{0, 1, 2}, x.state, x.seq); l != nil || e != api.ErrState {
			t.Error(i, l, e)
		}
	}
	if l, e := cnf.Values(api.Graph{}, nil, nil, nil); !slices.Equal(l, []bool{true}) || e != api.OK {
		t.Error(l, e)
	}
}

// runs are the values of all runs of k steps.
func runs(t *testing.T, g api.Graph, begin []int, k int) map[string]bool {
	all := map[string]bool{}
	for x := range 1 << len(begin) {
		for y := range 1 << (k * g.Ins) {
			state, all01 := sample.Bits(x, len(begin)), sample.Bits(y, k*g.Ins)
			var seq [][]bool
			for i := range k {
				seq = append(seq, all01[i*g.Ins:(i+1)*g.Ins])
			}
			l, e := cnf.Values(g, begin, state, seq)
			if e == api.ErrState {
				continue
			}
			if e != api.OK {
				t.Fatal(g, begin, e)
			}
			all[string(text(l))] = true
			checkLits(t, g, begin, state, seq, l)
		}
	}
	return all
}

func text(l []bool) []byte {
	var s []byte
	for _, v := range l {
		s = append(s, "01"[map[bool]int{true: 1}[v]])
	}
	return s
}

// checkLits looks in each row of a run at the literals of the graph's numbers.
func checkLits(t *testing.T, g api.Graph, begin []int, state []bool, seq [][]bool, l []bool) {
	u, _ := cnf.Unroll(g, begin, len(seq))
	holds := func(lit int) bool {
		if lit < 0 {
			return !l[-lit-1]
		}
		return l[lit-1]
	}
	for i, ins := range seq {
		values, _ := aig.Values(g, state, ins)
		for n, v := range values {
			if holds(cnf.Lit(u, i, 2*n)) != v || holds(cnf.Lit(u, i, 2*n+1)) == v {
				t.Fatal(g, begin, i, n)
			}
		}
		_, state, _ = aig.Step(g, state, ins)
	}
	for i, v := range state {
		if holds(cnf.Lit(u, len(seq), 2*(1+g.Ins+i))) != v {
			t.Fatal(g, begin, state)
		}
	}
}

func TestClausesHoldJustInRuns(t *testing.T) {
	r := rand.New(rand.NewSource(12))
	size := sample.Size{Inputs: [2]int{0, 2}, Latches: [2]int{0, 2}, Gates: [2]int{0, 3}}
	for range 200 {
		g := sample.Model(r.Intn, size, "x").Graph
		begin := make([]int, len(g.Next))
		for i := range begin {
			begin[i] = r.Intn(3)
		}
		k := r.Intn(4)
		u, e := cnf.Unroll(g, begin, k)
		if e != api.OK || u.Vars > 14 {
			continue
		}
		all := runs(t, g, begin, k)
		for x := range 1 << u.Vars {
			values := sample.Bits(x, u.Vars)
			if holds, e := cnf.True(u.Clauses, values); holds != all[string(text(values))] || e != api.OK {
				t.Fatal(g, begin, k, values, holds, e)
			}
		}
	}
}

func TestSame(t *testing.T) {
	a := func() cnf.Cnf { return cnf.Cnf{Vars: 2, Clauses: clauses([]int{1, 2}), Lits: [][]int{{1}}} }
	if !cnf.Same(a(), a()) || !cnf.Same(cnf.Cnf{}, cnf.Cnf{Clauses: []api.Clause{}, Lits: [][]int{}}) {
		t.Error("alike, and told not to be")
	}
	for i, change := range []func(u *cnf.Cnf){
		func(u *cnf.Cnf) { u.Vars = 3 },
		func(u *cnf.Cnf) { u.Clauses[0][0] = -1 },
		func(u *cnf.Cnf) { u.Clauses = nil },
		func(u *cnf.Cnf) { u.Lits[0][0] = 2 },
		func(u *cnf.Cnf) { u.Lits = append(u.Lits, nil) },
	} {
		u := a()
		change(&u)
		if cnf.Same(u, a()) || cnf.Same(a(), u) {
			t.Error(i)
		}
	}
}

func TestClausesShareNothing(t *testing.T) {
	u, _ := cnf.Unroll(three(), []int{0, 1, 2}, 1)
	u.Clauses[1] = append(u.Clauses[1], 99)
	if u.Clauses[2][0] == 99 {
		t.Error(u.Clauses)
	}
}
