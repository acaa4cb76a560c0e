package cover

import (
	"iter"
	"slices"
	"strings"
)

// literal is a place, and the sign that stands there.
type literal [2]int

func (l literal) form() Form {
	f := Form{Kind: isLiteral, Lit: 2 * l[0]}
	if l[1] == '0' {
		f.Lit++
	}
	return f
}

// had tells of a row whether it has the literal.
func (l literal) had() func(row string) bool {
	return func(row string) bool { return at(row, l[0]) == l }
}

// at is what a row has at a place.
func at(row string, place int) literal { return literal{place, int(row[place])} }

// without is a row with no literal at a place.
func without(row string, place int) string { return row[:place] + "-" + row[place+1:] }

// which tells the rows for which want tells what is asked.
func which(rows []string, want func(string) bool, asked bool) iter.Seq[string] {
	return func(yield func(string) bool) {
		for _, row := range rows {
			if want(row) == asked && !yield(row) {
				return
			}
		}
	}
}

// literals are those of a row, by places.
func literals(row string) []literal {
	var all []literal
	for place := range len(row) {
		if row[place] != '-' {
			all = append(all, at(row, place))
		}
	}
	return all
}

// factor is the factor of rows, each of which is there once.
func factor(rows []string) []Form {
	if len(rows) == 0 {
		return []Form{{Kind: isFalse}}
	}
	if slices.ContainsFunc(rows, isAll) {
		return []Form{{Kind: isTrue}}
	}
	if all := common(rows); len(all) > 0 {
		return factorCommon(rows, all)
	}
	if most, ok := mostHad(rows); ok {
		return factorMost(rows, most)
	}
	nodes := []Form{{Kind: isOr, Kids: len(rows)}}
	for _, row := range rows {
		nodes = append(nodes, allOf(literals(row), nil)...)
	}
	return nodes
}

// isAll tells whether a row is `-` everywhere.
func isAll(row string) bool { return strings.Trim(row, "-") == "" }

// common are the literals that all rows have.
func common(rows []string) []literal {
	var all []literal
	for _, l := range literals(rows[0]) {
		has, lacks := l.had(), 0
		for range which(rows, has, false) {
			lacks++
		}
		if lacks == 0 {
			all = append(all, l)
		}
	}
	return all
}

// mostHad is the literal that most rows have, if two of them have one.
func mostHad(rows []string) (literal, bool) {
	var most literal
	best := 1
	for place := range len(rows[0]) {
		for _, l := range []literal{{place, '1'}, {place, '0'}} {
			n := 0
			for range which(rows, l.had(), true) {
				n++
			}
			if n > best {
				most, best = l, n
			}
		}
	}
	return most, best > 1
}

// factorCommon is the and of literals that all rows have, and of the factor of what is left of the rows.
func factorCommon(rows []string, all []literal) []Form {
	var rest []string
	for _, row := range rows {
		for _, l := range all {
			row = without(row, l[0])
		}
		rest = append(rest, row)
	}
	return allOf(all, factor(rest))
}

// factorMost is an or: of the rows that have a literal, and of the others.
func factorMost(rows []string, l literal) []Form {
	var with, others []string
	for row := range which(rows, l.had(), true) {
		with = append(with, without(row, l[0]))
	}
	for row := range which(rows, l.had(), false) {
		others = append(others, row)
	}
	nodes := []Form{{Kind: isOr, Kids: 2}}
	nodes = append(nodes, allOf([]literal{l}, factor(with))...)
	return append(nodes, factor(others)...)
}

// allOf is the and of literals, and of one form more, if that is there and not just true; of one kid alone that kid.
func allOf(all []literal, rest []Form) []Form {
	kids := len(all)
	if len(rest) > 0 && rest[0].Kind != isTrue {
		kids++
	} else {
		rest = nil
	}
	var nodes []Form
	if kids > 1 {
		nodes = append(nodes, Form{Kind: isAnd, Kids: kids})
	}
	for _, l := range all {
		nodes = append(nodes, l.form())
	}
	return append(nodes, rest...)
}
