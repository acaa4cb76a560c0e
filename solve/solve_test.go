package solve_test

import (
	"math"
	"math/rand"
	"slices"
	"testing"

	"patchbay/api"
	"patchbay/cnf"
	"patchbay/proof"
	"patchbay/sample"
	"patchbay/solve"
)

func clauses(l ...[]int) []api.Clause {
	var all []api.Clause
	for _, c := range l {
		all = append(all, c)
	}
	return all
}

// may tells, of all values, whether some let clauses hold.
func may(l []api.Clause, vars int) bool {
	for x := range 1 << vars {
		if v, _ := cnf.True(l, sample.Bits(x, vars)); v {
			return true
		}
	}
	return false
}

// checkAnswer looks at all that can be seen of an answer.
func checkAnswer(t *testing.T, l []api.Clause, vars, budget int, a solve.Answer) {
	if a.Conflicts != len(a.Learned) || a.Conflicts > max(budget, 0) {
		t.Fatal(l, vars, budget, a)
	}
	all := slices.Clone(l)
	for i, c := range a.Learned {
		if is, e := proof.Rup(all, vars, c); !is || e != api.OK {
			t.Fatal("not rup:", l, a.Learned[:i+1], e)
		}
		all = append(all, c)
	}
	switch a.Res {
	case 0:
		if is, e := proof.Check(l, vars, a.Learned); !is || e != api.OK || a.Values != nil {
			t.Fatal(l, vars, a, e)
		}
	case 1:
		if v, e := cnf.True(l, a.Values); !v || e != api.OK || len(a.Values) != vars {
			t.Fatal(l, vars, a, e)
		}
	case 2:
		if a.Conflicts != max(budget, 0) || a.Values != nil {
			t.Fatal(l, vars, budget, a)
		}
	default:
		t.Fatal(a)
	}
}

func TestSmall(t *testing.T) {
	for i, x := range []struct {
		l    []api.Clause
		vars int
		res  int
	}{
		{nil, 0, 1}, {nil, 3, 1}, {clauses([]int{}), 0, 0}, {clauses([]int{}), 2, 0}, {clauses([]int{1}, []int{}), 2, 0},
		{clauses([]int{1, 2}, []int{-1}, []int{-2}), 2, 0},
		{clauses([]int{1}, []int{-1}), 1, 0}, {clauses([]int{1, 1}, []int{-1, -1, -1}), 1, 0}, {clauses([]int{1, -1}), 1, 1},
		{clauses([]int{1, 2}, []int{1, -2}, []int{-1, 2}, []int{-1, -2}), 2, 0},
		{clauses([]int{1, 2}, []int{1, -2}, []int{-1, 2}), 2, 1},
		{clauses([]int{1, -1, 2}, []int{-2, -2}), 2, 1},
	} {
		a, e := solve.Solve(x.l, x.vars, 100)
		if a.Res != x.res || e != api.OK {
			t.Error(i, a, e)
		}
		checkAnswer(t, x.l, x.vars, 100, a)
	}
}

func TestWrong(t *testing.T) {
	for i, x := range []struct {
		l    []api.Clause
		vars int
		e    api.Errno
	}{
		{nil, -1, api.ErrLimit}, {nil, 20001, api.ErrLimit}, {make([]api.Clause, 100001), 1, api.ErrLimit},
		{clauses([]int{0}), 1, api.ErrArg}, {clauses([]int{}, []int{2}), 1, api.ErrArg}, {clauses([]int{math.MinInt}), 1, api.ErrArg},
	} {
		if a, e := solve.Solve(x.l, x.vars, 10); !solve.Same(a, solve.Answer{}) || e != x.e {
			t.Error(i, a, e)
		}
	}
	if a, e := solve.Solve(nil, 20000, -1); a.Res != 1 || len(a.Values) != 20000 || e != api.OK {
		t.Error(a.Res, e)
	}
}

func TestToldByClausesOfOneLiteral(t *testing.T) {
	l := clauses([]int{1, -2, 3}, []int{-1}, []int{2}, []int{3}, []int{-3, 2})
	for _, budget := range []int{math.MinInt, -1, 0, 1, 100} {
		a, e := solve.Solve(l, 3, budget)
		if a.Res != 1 || !slices.Equal(a.Values, []bool{false, true, true}) || a.Conflicts != 0 || e != api.OK {
			t.Error(budget, a, e)
		}
		if a, e := solve.Solve(append(slices.Clone(l), api.Clause{-2, -3}), 3, budget); a.Res != 0 || a.Conflicts != 0 || e != api.OK {
			t.Error(budget, a, e)
		}
	}
}

func randomClauses(r *rand.Rand, many, vars, width int) []api.Clause {
	var l []api.Clause
	for range many {
		c := make(api.Clause, 1+r.Intn(width))
		if r.Intn(20) > 0 {
			c = make(api.Clause, 2+r.Intn(width-1))
		}
		for i := range c {
			c[i] = 1 + r.Intn(vars)
			if r.Intn(2) == 0 {
				c[i] = -c[i]
			}
		}
		l = append(l, c)
	}
	return l
}

func power(x, n int) int {
	p := 1
	for range n {
		p *= x
	}
	return p
}

func TestWhatIsToldIsSo(t *testing.T) {
	r := rand.New(rand.NewSource(16))
	conflicts := 0
	for range 4000 {
		vars := 1 + r.Intn(9)
		l := randomClauses(r, r.Intn(8*vars), vars, 4)
		a, e := solve.Solve(l, vars, power(3, vars))
		if e != api.OK || a.Res == 2 || (a.Res == 1) != may(l, vars) {
			t.Fatal(l, vars, a, e)
		}
		checkAnswer(t, l, vars, power(3, vars), a)
		conflicts += a.Conflicts
		checkNew(t, l, a.Learned)
		checkBudgets(t, l, vars, a)
	}
	if conflicts < 500 {
		t.Error("too few conflicts were tried:", conflicts)
	}
}

// checkNew looks whether each learned clause is neither there nor holds always.
func checkNew(t *testing.T, l, learned []api.Clause) {
	set := func(c api.Clause) api.Clause {
		c = slices.Clone(c)
		slices.Sort(c)
		return slices.Compact(c)
	}
	all := slices.Clone(l)
	for _, c := range learned {
		if slices.ContainsFunc(c, func(lit int) bool { return slices.Contains(c, -lit) }) {
			t.Fatal(l, c)
		}
		if slices.ContainsFunc(all, func(d api.Clause) bool { return slices.Equal(set(c), set(d)) }) {
			t.Fatal(l, learned, c)
		}
		all = append(all, c)
	}
}

// checkBudgets solves with all lesser budgets.
func checkBudgets(t *testing.T, l []api.Clause, vars int, a solve.Answer) {
	for budget := range a.Conflicts + 3 {
		b, e := solve.Solve(l, vars, budget)
		if e != api.OK {
			t.Fatal(e)
		}
		checkAnswer(t, l, vars, budget, b)
		if budget >= a.Conflicts && !solve.Same(a, b) || budget < a.Conflicts && b.Res != 2 {
			t.Fatal(l, budget, a, b)
		}
		if !slices.EqualFunc(b.Learned, a.Learned[:len(b.Learned)], func(c, d api.Clause) bool { return slices.Equal(c, d) }) {
			t.Fatal(l, budget, a.Learned, b.Learned)
		}
	}
}

// pigeons: so many, of which no two sit in one hole, each in one.
func pigeons(many, holes int) ([]api.Clause, int) {
	at := func(p, h int) int { return 1 + p*holes + h }
	var l []api.Clause
	for p := range many {
		var c api.Clause
		for h := range holes {
			c = append(c, at(p, h))
			for q := range p {
				l = append(l, api.Clause{-at(p, h), -at(q, h)})
			}
		}
		l = append(l, c)
	}
	return l, many * holes
}

func TestPigeons(t *testing.T) {
	for n := 2; n < 7; n++ {
		l, vars := pigeons(n, n)
		a, e := solve.Solve(l, vars, 100000)
		if a.Res != 1 || e != api.OK {
			t.Error(n, a.Res, e)
		}
		checkAnswer(t, l, vars, 100000, a)
		l, vars = pigeons(n+1, n)
		a, e = solve.Solve(l, vars, 100000)
		if a.Res != 0 || e != api.OK {
			t.Error(n, a.Res, e)
		}
		checkAnswer(t, l, vars, 100000, a)
	}
	l, vars := pigeons(9, 8)
	a, e := solve.Solve(l, vars, 500)
	if a.Res != 2 || a.Conflicts != 500 || e != api.OK {
		t.Error(a.Res, a.Conflicts, e)
	}
	checkAnswer(t, l, vars, 500, a)
}

func TestLarge(t *testing.T) {
	r := rand.New(rand.NewSource(17))
	for _, many := range []int{600, 680} {
		var l []api.Clause
		for range many {
			p := r.Perm(150)[:3]
			c := api.Clause{1 + p[0], 1 + p[1], 1 + p[2]}
			for i := range c {
				if r.Intn(2) == 0 {
					c[i] = -c[i]
				}
			}
			l = append(l, c)
		}
		a, e := solve.Solve(l, 150, 1000000)
		if a.Res == 2 || e != api.OK {
			t.Error(a.Res, e)
		}
		t.Log(many, a.Res, a.Conflicts)
		if a.Conflicts < 3000 {
			checkAnswer(t, l, 150, 1000000, a)
		}
	}
}

func TestNothingIsChanged(t *testing.T) {
	l := clauses([]int{3, 2, 1}, []int{-1, -1, 2}, []int{3, -2}, []int{-3, 1})
	a, _ := solve.Solve(l, 3, 10)
	if !slices.Equal(l[0], []int{3, 2, 1}) || !slices.Equal(l[1], []int{-1, -1, 2}) || !slices.Equal(l[2], []int{3, -2}) {
		t.Error(l)
	}
	b, _ := solve.Solve(l, 3, 10)
	if !solve.Same(a, b) {
		t.Error(a, b)
	}
}

func TestLuby(t *testing.T) {
	want := []int{0, 1, 1, 2, 1, 1, 2, 4, 1, 1, 2, 1, 1, 2, 4, 8, 1}
	for i, w := range want {
		if n := solve.Luby(i); n != w {
			t.Error(i, n)
		}
	}
	for _, x := range [][2]int{{-1, 0}, {math.MinInt, 0}, {1 << 31, 0}, {math.MaxInt, 0}, {1<<31 - 1, 1 << 30}, {1<<30 - 1, 1 << 29}, {1 << 30, 1}, {1<<31 - 2, 1 << 29}} {
		if n := solve.Luby(x[0]); n != x[1] {
			t.Error(x, n)
		}
	}
}

func TestSame(t *testing.T) {
	a := func() solve.Answer {
		return solve.Answer{Res: 1, Values: []bool{true}, Conflicts: 1, Learned: clauses([]int{1, 2})}
	}
	if !solve.Same(a(), a()) || !solve.Same(solve.Answer{}, solve.Answer{Values: []bool{}, Learned: []api.Clause{}}) {
		t.Error("alike, and told not to be")
	}
	for i, change := range []func(b *solve.Answer){
		func(b *solve.Answer) { b.Res = 0 },
		func(b *solve.Answer) { b.Values[0] = false },
		func(b *solve.Answer) { b.Values = nil },
		func(b *solve.Answer) { b.Conflicts = 2 },
		func(b *solve.Answer) { b.Learned[0][1] = 3 },
		func(b *solve.Answer) { b.Learned = nil },
	} {
		b := a()
		change(&b)
		if solve.Same(a(), b) || solve.Same(b, a()) {
			t.Error(i)
		}
	}
}
