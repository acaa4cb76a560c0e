package solve

import (
	"slices"

	"patchbay/api"
)

// noReason is the reason of what was tried, or told by a clause of one literal.
const noReason = -1

// assigned is what is known of a variable.
type assigned struct {
	// value is 1, if it is true, -1, if it is false, 0, if it has no value.
	value int
	// level is how many were tried when it came to have its value, reason the clause by which it had to.
	level, reason int
	// last is the value that it had the last time: that is tried first.
	last bool
	// seen marks it while a conflict is looked at.
	seen bool
}

// solver tries values; it gives up by a panic with the result.
type solver struct {
	// vars is by numbers: 0 is none.
	vars    []assigned
	clauses [][]int
	// watched is which clauses watch a literal: each one watches its first two.
	watched map[int][]int
	// trail is the literals that hold, in the order in which they came to; levels is where each one that was tried stands.
	trail  []int
	levels []int
	// went is how many of trail went on to the clauses.
	went    int
	queue   *queue
	budget  int
	learned []api.Clause
}

func newSolver(vars, budget int) *solver {
	return &solver{vars: make([]assigned, vars+1), watched: map[int][]int{}, queue: newQueue(vars), budget: budget}
}

// variable is the one of a literal.
func variable(lit int) int { return max(lit, -lit) }

// value is 1, if a literal holds, -1, if it holds turned, 0, if neither.
func (s *solver) value(lit int) int {
	if lit < 0 {
		return -s.vars[-lit].value
	}
	return s.vars[lit].value
}

func (s *solver) values() []bool {
	var all []bool
	for _, v := range s.vars[1:] {
		all = append(all, v.value > 0)
	}
	return all
}

// take takes a clause of those that are given.
func (s *solver) take(c api.Clause) {
	once := slices.Clone([]int(c))
	slices.Sort(once)
	once = slices.Compact(once)
	for _, lit := range once {
		if _, ok := slices.BinarySearch(once, -lit); ok {
			return // it always holds
		}
	}
	switch len(once) {
	case 0:
		panic(ended(resNone))
	case 1:
		if s.value(once[0]) < 0 {
			panic(ended(resNone))
		}
		if s.value(once[0]) == 0 {
			s.hold(once[0], noReason)
		}
	default:
		s.watch(once)
	}
}

// watch puts a clause of two literals or more to the others, and tells its place.
func (s *solver) watch(c []int) int {
	n := len(s.clauses)
	s.clauses = append(s.clauses, c)
	s.watched[c[0]] = append(s.watched[c[0]], n)
	s.watched[c[1]] = append(s.watched[c[1]], n)
	return n
}

// hold tells that a literal holds that had no value.
func (s *solver) hold(lit, reason int) {
	v := &s.vars[variable(lit)]
	v.value, v.level, v.reason = 1, len(s.levels), reason
	if lit < 0 {
		v.value = -1
	}
	s.trail = append(s.trail, lit)
}

// search goes on till all variables have values, true, or till so many conflicts were spent.
func (s *solver) search(limit int) bool {
	for {
		if n := s.propagate(); n >= 0 {
			s.spend(n)
			limit--
			continue
		}
		if limit <= 0 {
			s.back(0)
			return false
		}
		lit := s.choose()
		if lit == 0 {
			return true
		}
		s.levels = append(s.levels, len(s.trail))
		s.hold(lit, noReason)
	}
}

// choose is the literal that is tried next; 0, if all have values.
func (s *solver) choose() int {
	for s.queue.Len() > 0 {
		n := s.queue.take()
		if s.vars[n].value != 0 {
			continue
		}
		if s.vars[n].last {
			return n
		}
		return -n
	}
	return 0
}

// propagate holds what has to; it tells a clause that is in conflict, or -1.
func (s *solver) propagate() int {
	for s.went < len(s.trail) {
		lit := s.trail[s.went]
		s.went++
		if n := s.turn(-lit); n >= 0 {
			return n
		}
	}
	return -1
}

// turn looks at the clauses that watch a literal that holds turned now; it tells one that is in conflict, or -1.
func (s *solver) turn(lit int) int {
	list := s.watched[lit]
	kept := list[:0]
	for i, n := range list {
		if s.leave(n, lit) {
			continue
		}
		kept = append(kept, n)
		first := s.clauses[n][0]
		switch s.value(first) {
		case -1:
			s.watched[lit] = append(kept, list[i+1:]...)
			return n
		case 0:
			s.hold(first, n)
		}
	}
	s.watched[lit] = kept
	return -1
}

// leave lets a clause watch another literal that may hold in place of one, if it has to; that one stands second otherwise.
func (s *solver) leave(n, lit int) bool {
	c := s.clauses[n]
	if c[0] == lit {
		c[0], c[1] = c[1], c[0]
	}
	if s.value(c[0]) > 0 {
		return false
	}
	for i := 2; i < len(c); i++ {
		if s.value(c[i]) >= 0 {
			c[1], c[i] = c[i], c[1]
			s.watched[c[1]] = append(s.watched[c[1]], n)
			return true
		}
	}
	return false
}

// back forgets all that was tried above a level.
func (s *solver) back(level int) {
	if len(s.levels) <= level {
		return
	}
	mark := s.levels[level]
	for _, lit := range s.trail[mark:] {
		v := &s.vars[variable(lit)]
		v.value, v.last = 0, lit > 0
		s.queue.put(variable(lit))
	}
	s.trail, s.levels, s.went = s.trail[:mark], s.levels[:level], mark
}
