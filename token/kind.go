package token

import "strings"

// kind tells of a byte whether it is of a kind.
type kind func(c byte) bool

// behind is the first place, from at on, that has no byte of the kind.
func (k kind) behind(s string, at int) int {
	for at < len(s) && k(s[at]) {
		at++
	}
	return at
}

// seen are the bytes that names are made of.
func seen(c byte) bool { return 33 <= c && c <= 126 }

func oneOf(set string) kind {
	return func(c byte) bool { return strings.IndexByte(set, c) >= 0 }
}

func between(low, high byte) kind {
	return func(c byte) bool { return low <= c && c <= high }
}

func not(k kind) kind {
	return func(c byte) bool { return !k(c) }
}

func both(k, l kind) kind {
	return func(c byte) bool { return k(c) && l(c) }
}

func either(k, l kind) kind {
	return func(c byte) bool { return k(c) || l(c) }
}
