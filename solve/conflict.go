package solve

import (
	"slices"

	"patchbay/api"
)

// spend learns a clause of a conflict, and goes back to where that tells something.
func (s *solver) spend(n int) {
	if len(s.levels) == 0 {
		panic(ended(resNone))
	}
	if len(s.learned) >= s.budget {
		panic(ended(resUnknown))
	}
	c := s.learn(n)
	s.learned = append(s.learned, slices.Clone(api.Clause(c)))
	s.queue.grow()
	if len(c) == 1 {
		s.back(0)
		s.hold(c[0], noReason)
		return
	}
	s.back(s.vars[variable(c[1])].level)
	s.hold(c[0], s.watch(c))
}

// learn is the clause of the first unique point of a conflict: that literal stands first, and second one of the next level.
func (s *solver) learn(n int) []int {
	c := []int{0}
	open := 0 // how many literals of this level are seen and not resolved yet
	lit := 0
	for at := len(s.trail) - 1; ; at-- {
		open += s.see(n, lit, &c)
		for !s.vars[variable(s.trail[at])].seen {
			at--
		}
		lit = s.trail[at]
		v := &s.vars[variable(lit)]
		v.seen = false
		open--
		if open == 0 {
			break
		}
		n = v.reason
	}
	c[0] = -lit
	c = s.shorten(c)
	for i := 2; i < len(c); i++ {
		if s.vars[variable(c[i])].level > s.vars[variable(c[1])].level {
			c[1], c[i] = c[i], c[1]
		}
	}
	return c
}

// see marks the literals of a clause, but the one that came of it; those of lower levels are put to c, those of this one are counted.
func (s *solver) see(n, but int, c *[]int) int {
	many := 0
	for _, lit := range s.clauses[n] {
		v := &s.vars[variable(lit)]
		if lit == but || v.seen || v.level == 0 {
			continue
		}
		v.seen = true
		s.queue.raise(variable(lit))
		if v.level == len(s.levels) {
			many++
		} else {
			*c = append(*c, lit)
		}
	}
	return many
}

// shorten leaves out literals that follow from the others, and takes all marks away.
func (s *solver) shorten(c []int) []int {
	short := []int{c[0]}
	for _, lit := range c[1:] {
		if !s.follows(lit) {
			short = append(short, lit)
		}
	}
	for _, lit := range c[1:] {
		s.vars[variable(lit)].seen = false
	}
	return short
}

// follows tells whether a literal holds turned by others alone that are marked.
func (s *solver) follows(lit int) bool {
	n := s.vars[variable(lit)].reason
	if n == noReason {
		return false
	}
	return !slices.ContainsFunc(s.clauses[n], func(other int) bool {
		v := s.vars[variable(other)]
		return other != -lit && !v.seen && v.level > 0
	})
}
