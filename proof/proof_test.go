package proof_test

import (
	"math"
	"math/rand"
	"slices"
	"testing"

	"patchbay/api"
	"patchbay/cnf"
	"patchbay/proof"
)

func clauses(l ...[]int) []api.Clause {
	var all []api.Clause
	for _, c := range l {
		all = append(all, c)
	}
	return all
}

func sameClauses(a, b []api.Clause) bool {
	return slices.EqualFunc(a, b, func(c, d api.Clause) bool { return slices.Equal(c, d) })
}

func TestPropagate(t *testing.T) {
	for i, x := range []struct {
		l        []api.Clause
		vars     int
		given    []int
		holds    []int
		conflict bool
	}{
		{nil, 0, nil, nil, false},
		{nil, 3, []int{3, -1, 3}, []int{-1, 3}, false},
		{nil, 3, []int{3, -1, -3}, nil, true},
		{clauses([]int{}), 3, nil, nil, true},
		{clauses([]int{2}, []int{-2}), 2, nil, nil, true},
		{clauses([]int{4}, []int{-4, -2}, []int{2, -3}, []int{3, 1, 5}), 5, nil, []int{-2, -3, 4}, false},
		{clauses([]int{4}, []int{-4, -2}, []int{2, -3}, []int{3, 1, 5}), 5, []int{-1}, []int{-1, -2, -3, 4, 5}, false},
		{clauses([]int{4}, []int{-4, -2}, []int{2, -3}, []int{3, 1, 5}), 5, []int{-1, -5}, nil, true},
		{clauses([]int{1, 1, 1}), 1, nil, []int{1}, false},
		{clauses([]int{1, 2, 1, 2}), 2, []int{-1}, []int{-1, 2}, false},
		{clauses([]int{1, -1}), 2, nil, nil, false},
		{clauses([]int{1, -1, 2}), 2, []int{-2}, []int{-2}, false},
		{clauses([]int{1, -1, 2}), 2, []int{1}, []int{1}, false},
		{clauses([]int{1, 2}, []int{1, -2}), 2, nil, nil, false},
		{clauses([]int{1, 2}, []int{1, -2}), 2, []int{-1}, nil, true},
	} {
		holds, conflict, e := proof.Propagate(x.l, x.vars, x.given)
		if !slices.Equal(holds, x.holds) || conflict != x.conflict || e != api.OK {
			t.Error(i, holds, conflict, e)
		}
	}
}

func TestWrong(t *testing.T) {
	for i, x := range []struct {
		l    []api.Clause
		vars int
		c    []int
		e    api.Errno
	}{
		{nil, -1, []int{0}, api.ErrLimit}, {nil, 20001, nil, api.ErrLimit}, {make([]api.Clause, 100001), 1, []int{0}, api.ErrLimit},
		{clauses([]int{2}), 1, []int{0}, api.ErrArg}, {nil, 1, []int{0}, api.ErrArg}, {nil, 1, []int{1, 2}, api.ErrArg}, {nil, 1, []int{-2}, api.ErrArg},
		{clauses([]int{}), 1, []int{math.MinInt}, api.ErrArg}, {clauses([]int{1}, []int{-1}), 1, []int{math.MaxInt}, api.ErrArg},
	} {
		if l, conflict, e := proof.Propagate(x.l, x.vars, x.c); l != nil || conflict || e != x.e {
			t.Error(i, l, conflict, e)
		}
		if is, e := proof.Rup(x.l, x.vars, x.c); is || e != x.e {
			t.Error(i, is, e)
		}
		for _, steps := range [][]api.Clause{{x.c}, {{1}, {}, x.c}} {
			if x.vars != 1 {
				steps = steps[:1]
			}
			if is, e := proof.Check(x.l, x.vars, steps); is || e != x.e {
				t.Error(i, is, e)
			}
			if l, e := proof.Prune(x.l, x.vars, steps); l != nil || e != x.e {
				t.Error(i, l, e)
			}
		}
	}
}

func TestRup(t *testing.T) {
	l := clauses([]int{1, 2}, []int{1, -2}, []int{-1, 3, 4})
	for _, x := range []struct {
		c    []int
		want bool
	}{
		{[]int{1}, true}, {[]int{1, 4}, true}, {[]int{}, false}, {[]int{2}, false}, {[]int{-1}, false}, {[]int{3, 4}, true}, {[]int{3}, false},
		{[]int{2, -2}, true}, {[]int{5, -5}, true}, {[]int{5}, false}, {[]int{1, 1}, true},
	} {
		if is, e := proof.Rup(l, 5, x.c); is != x.want || e != api.OK {
			t.Error(x, is, e)
		}
	}
	if is, e := proof.Rup(clauses([]int{}), 1, []int{1}); !is || e != api.OK {
		t.Error(is, e)
	}
}

// four are all clauses of two variables: no values let them hold.
func four() []api.Clause {
	return clauses([]int{1, 2}, []int{1, -2}, []int{-1, 2}, []int{-1, -2})
}

func TestCheck(t *testing.T) {
	for i, x := range []struct {
		l     []api.Clause
		steps []api.Clause
		want  bool
	}{
		{four(), clauses([]int{1}), true},
		{four(), clauses([]int{-2}, []int{}), true},
		{four(), nil, false},
		{four(), clauses([]int{3}), false},
		{four(), clauses([]int{}), false},
		{four(), clauses([]int{3, -3}), false},
		{four(), clauses([]int{1}, []int{3}), true},
		{four(), clauses([]int{3}, []int{1}), false},
		{four()[:3], clauses([]int{1}), false},
		{four()[:3], clauses([]int{1}, []int{2}), false},
		{clauses([]int{1}, []int{-1}), nil, true},
		{clauses([]int{}), clauses([]int{2}), true},
		{nil, nil, false},
	} {
		if is, e := proof.Check(x.l, 3, x.steps); is != x.want || e != api.OK {
			t.Error(i, is, e)
		}
	}
}

func TestPrune(t *testing.T) {
	for i, x := range []struct{ l, steps, want []api.Clause }{
		{four(), clauses([]int{1}), clauses([]int{1})},
		{four(), clauses([]int{1}, []int{2}, []int{}), clauses([]int{1})},
		{four(), clauses([]int{1, 3}, []int{2}, []int{-1}), clauses([]int{2})},
		{four(), clauses([]int{1, 3}, []int{3, 4}, []int{1}), clauses([]int{1})},
		{four(), clauses([]int{1, 3}, []int{1, -3}, []int{2, 1}), nil},
		{four(), clauses([]int{3}), nil},
		{clauses([]int{1}, []int{-1}), clauses([]int{1}, []int{}), nil},
		{clauses([]int{1, 2, 3}, []int{1, 2, -3}, []int{1, -2, 3}, []int{1, -2, -3}, []int{-1, 2, 3}, []int{-1, 2, -3}, []int{-1, -2, 3}, []int{-1, -2, -3}),
			clauses([]int{1, 2}, []int{2, 3}, []int{1}, []int{2}, []int{-1, 2}), clauses([]int{1, 2}, []int{1}, []int{2})},
	} {
		l, e := proof.Prune(x.l, 4, x.steps)
		if !sameClauses(l, x.want) || e != api.OK {
			t.Error(i, l, e)
		}
		if len(l) > 0 && len(l[0]) > 0 {
			l[0][0] = 99
			if slices.ContainsFunc(x.steps, func(c api.Clause) bool { return slices.Contains(c, 99) }) {
				t.Error("Prune shares memory with the steps")
			}
		}
	}
}

// propagateSlowly is Propagate word by word.
func propagateSlowly(l []api.Clause, given []int) ([]int, bool) {
	holds := map[int]bool{}
	for _, lit := range given {
		holds[lit] = true
	}
	for {
		before := len(holds)
		for _, c := range l {
			left := map[int]bool{}
			for _, lit := range c {
				if !holds[-lit] {
					left[lit] = true
				}
			}
			if len(left) == 0 {
				return nil, true
			}
			if len(left) == 1 {
				for lit := range left {
					holds[lit] = true
				}
			}
		}
		for lit := range holds {
			if holds[-lit] {
				return nil, true
			}
		}
		if len(holds) == before {
			break
		}
	}
	var all []int
	for v := range 100 {
		for _, lit := range []int{v, -v} {
			if v > 0 && holds[lit] {
				all = append(all, lit)
			}
		}
	}
	return all, false
}

func randomClauses(r *rand.Rand, many, vars, width int) []api.Clause {
	var l []api.Clause
	for range many {
		c := make(api.Clause, 1+r.Intn(width))
		for i := range c {
			c[i] = 1 + r.Intn(vars)
			if r.Intn(2) == 0 {
				c[i] = -c[i]
			}
		}
		l = append(l, c)
	}
	return l
}

func TestPropagateIsWhatIsSaid(t *testing.T) {
	r := rand.New(rand.NewSource(13))
	for range 3000 {
		vars := 1 + r.Intn(8)
		l := randomClauses(r, r.Intn(12), vars, 4)
		var given []int
		if r.Intn(2) == 0 {
			given = randomClauses(r, 1, vars, 3)[0]
		}
		want, wantConflict := propagateSlowly(l, given)
		holds, conflict, e := proof.Propagate(l, vars, given)
		if !slices.Equal(holds, want) || conflict != wantConflict || e != api.OK {
			t.Fatal(l, given, holds, conflict, want, wantConflict)
		}
	}
}

// checkSlowly is Check, of Propagate alone.
func checkSlowly(l, steps []api.Clause) bool {
	all := slices.Clone(l)
	for _, c := range steps {
		var turned []int
		for _, lit := range c {
			turned = append(turned, -lit)
		}
		if _, conflict := propagateSlowly(all, turned); !conflict {
			return false
		}
		all = append(all, c)
	}
	_, conflict := propagateSlowly(all, nil)
	return conflict
}

func pruneSlowly(l, steps []api.Clause) []api.Clause {
	if !checkSlowly(l, steps) {
		return nil
	}
	left := slices.Clone(steps)
	for i := len(left) - 1; i >= 0; i-- {
		if others := slices.Delete(slices.Clone(left), i, i+1); checkSlowly(l, others) {
			left = others
		}
	}
	return left
}

func TestCheckAndPruneAreWhatIsSaid(t *testing.T) {
	r := rand.New(rand.NewSource(14))
	good := 0
	for range 3000 {
		vars := 2 + r.Intn(3)
		l := randomClauses(r, 4+r.Intn(14), vars, 3)
		steps := randomClauses(r, r.Intn(8), vars, 2)
		want := checkSlowly(l, steps)
		is, e := proof.Check(l, vars, steps)
		if is != want || e != api.OK {
			t.Fatal(l, steps, is, want)
		}
		left, e := proof.Prune(l, vars, steps)
		if !sameClauses(left, pruneSlowly(l, steps)) || e != api.OK {
			t.Fatal(l, steps, left, pruneSlowly(l, steps))
		}
		if is && len(steps) > 0 {
			good++
		}
	}
	if good < 100 {
		t.Error("too few proofs were tried:", good)
	}
}

func TestWhatIsRupHoldsWhereverTheClausesDo(t *testing.T) {
	r := rand.New(rand.NewSource(15))
	for range 500 {
		vars := 1 + r.Intn(6)
		l := randomClauses(r, r.Intn(10), vars, 3)
		c := randomClauses(r, 1, vars, 3)
		if is, _ := proof.Rup(l, vars, c[0]); !is {
			continue
		}
		for x := range 1 << vars {
			values := make([]bool, vars)
			for i := range values {
				values[i] = x>>i&1 == 1
			}
			all, _ := cnf.True(l, values)
			one, _ := cnf.True(c, values)
			if all && !one {
				t.Fatal(l, c, values)
			}
		}
	}
}
