package ident

import "strings"

// law tells of names whether they are legal, format by format.
type law struct{}

func (l law) aiger(string) bool { return true }

func (l law) blif(s string) bool {
	return !strings.HasPrefix(s, ".") && !strings.ContainsAny(s, "#\\")
}

func (l law) bench(s string) bool { return !strings.ContainsAny(s, "=(),#") }

func (l law) verilog(s string) bool {
	if !isLetter(s[0]) && s[0] != '_' {
		return false
	}
	for i := range len(s) {
		if !isLetter(s[i]) && (s[i] < '0' || s[i] > '9') && s[i] != '_' && s[i] != '$' {
			return false
		}
	}
	_, kept := keptWords()[s]
	return !kept
}

func isLetter(c byte) bool { return 'a' <= c && c <= 'z' || 'A' <= c && c <= 'Z' }

// keptWords are the words that mean something in Verilog.
func keptWords() map[string]struct{} {
	return map[string]struct{}{
		"module": {}, "endmodule": {}, "input": {}, "output": {}, "wire": {}, "assign": {},
		"buf": {}, "not": {}, "and": {}, "nand": {}, "or": {}, "nor": {}, "xor": {}, "xnor": {},
		"dff0": {}, "dff1": {}, "dffx": {},
	}
}
