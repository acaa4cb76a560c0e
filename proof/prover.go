package proof

import (
	"iter"
	"slices"

	"patchbay/api"
)

// prover tells what holds, if clauses do.
type prover struct {
	clauses []api.Clause
	// left is, clause by clause, how many of its literals do not hold turned, of those that went on.
	left []int
	// has is which clauses have a literal.
	has map[int][]int
	// holds is the literals that hold; trail is the same ones, in the order in which that was found.
	holds map[int]struct{}
	trail []int
	// went is how many of trail went on to the clauses.
	went     int
	conflict bool
}

func newProver(l []api.Clause) *prover {
	p := &prover{has: map[int][]int{}, holds: map[int]struct{}{}}
	for _, c := range l {
		p.add(c)
	}
	return p
}

// add adds a clause, and what holds by it.
func (p *prover) add(c api.Clause) {
	if p.conflict {
		return
	}
	n := len(p.clauses)
	var once api.Clause
	left := 0
	for _, lit := range c {
		if slices.Contains(once, lit) {
			continue
		}
		once = append(once, lit)
		p.has[lit] = append(p.has[lit], n)
		if !p.is(-lit) {
			left++
		}
	}
	p.clauses, p.left = append(p.clauses, once), append(p.left, left)
	if left <= 1 {
		p.last(n)
	}
	p.propagate()
}

func (p *prover) is(lit int) bool {
	_, ok := p.holds[lit]
	return ok
}

// hold tells that a literal holds.
func (p *prover) hold(lit int) {
	switch {
	case p.is(-lit):
		p.conflict = true
	case !p.is(lit):
		p.holds[lit] = struct{}{}
		p.trail = append(p.trail, lit)
	}
}

// last holds the last literal of a clause that may; where there is none, that is a conflict.
func (p *prover) last(n int) {
	for _, lit := range p.clauses[n] {
		if !p.is(-lit) {
			p.hold(lit)
			return
		}
	}
	p.conflict = true
}

// goesOn tells the literals that hold and did not go on yet, up to a conflict.
func (p *prover) goesOn() iter.Seq[int] {
	return func(yield func(int) bool) {
		for p.went < len(p.trail) && !p.conflict {
			p.went++
			if !yield(p.trail[p.went-1]) {
				return
			}
		}
	}
}

func (p *prover) propagate() {
	for lit := range p.goesOn() {
		for _, n := range p.has[-lit] {
			p.left[n]--
			if p.left[n] <= 1 {
				p.last(n)
			}
		}
	}
}

func (p *prover) assume(lits []int) {
	for _, lit := range lits {
		p.hold(lit)
	}
	p.propagate()
}

// isRup tells whether a clause's literals, all turned, are a conflict; what was found on the way is forgotten.
func (p *prover) isRup(c api.Clause) bool {
	if p.conflict {
		return true
	}
	mark := len(p.trail)
	var turned []int
	for _, lit := range c {
		turned = append(turned, -lit)
	}
	p.assume(turned)
	is := p.conflict
	p.forget(mark)
	return is
}

// forget goes back to where the trail had so many literals, without a conflict.
func (p *prover) forget(mark int) {
	for i := len(p.trail) - 1; i >= mark; i-- {
		lit := p.trail[i]
		delete(p.holds, lit)
		if i >= p.went {
			continue
		}
		for _, n := range p.has[-lit] {
			p.left[n]++
		}
	}
	p.trail, p.went, p.conflict = p.trail[:mark], mark, false
}
