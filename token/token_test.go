package token_test

import (
	"slices"
	"strings"
	"testing"

	"patchbay/api"
	"patchbay/token"
)

func TestBlif(t *testing.T) {
	for s, want := range map[string][]token.Token{
		"":                nil,
		" \t\r\n\n":       nil,
		"a # b":           {{0, "a", 0}, {3, "", 5}},
		"a#b\nc":          {{0, "a", 0}, {3, "", 3}, {0, "c", 4}, {3, "", 5}},
		"ab c\n":          {{0, "ab", 0}, {0, "c", 3}, {3, "", 4}},
		"\n\na\n\n b\n\n": {{0, "a", 2}, {3, "", 3}, {0, "b", 6}, {3, "", 7}},
		"# a\nb":          {{0, "b", 4}, {3, "", 5}},
		"a\\\nb":          {{0, "a", 0}, {0, "b", 3}, {3, "", 4}},
		"a \\\n\\\n b\nc": {{0, "a", 0}, {0, "b", 7}, {3, "", 8}, {0, "c", 9}, {3, "", 10}},
		"a\\\n":           {{0, "a", 0}, {3, "", 3}},
		"\\\n":            nil,
		"a\\b":            {{0, "a", 0}, {0, "\\", 1}, {0, "b", 2}, {3, "", 3}},
		"a\\":             {{0, "a", 0}, {0, "\\", 1}, {3, "", 2}},
		"\\\\\n":          {{0, "\\", 0}, {3, "", 3}},
		"a\\\r\nb":        {{0, "a", 0}, {0, "\\", 1}, {3, "", 3}, {0, "b", 4}, {3, "", 5}},
		"a # \\\nb":       {{0, "a", 0}, {3, "", 5}, {0, "b", 6}, {3, "", 7}},
		"\x00\xff(=\x7f":  {{0, "\x00\xff(=\x7f", 0}, {3, "", 5}},
		"a\r\tb":          {{0, "a", 0}, {0, "b", 3}, {3, "", 4}},
	} {
		if got := token.Blif(s); !slices.Equal(got, want) {
			t.Errorf("%q: %v, want %v", s, got, want)
		}
	}
}

func TestBench(t *testing.T) {
	for s, want := range map[string][]token.Token{
		"":                       nil,
		"# \xff (\n":             nil,
		"z = AND(a, b)":          {{0, "z", 0}, {1, "=", 2}, {0, "AND", 4}, {1, "(", 7}, {0, "a", 8}, {1, ",", 9}, {0, "b", 11}, {1, ")", 12}},
		"a#b=\nc":                {{0, "a", 0}, {0, "c", 5}},
		"!~\\\"/;\t\r\n==((,,))": {{0, "!~\\\"/;", 0}, {1, "=", 9}, {1, "=", 10}, {1, "(", 11}, {1, "(", 12}, {1, ",", 13}, {1, ",", 14}, {1, ")", 15}, {1, ")", 16}},
	} {
		if got, at, e := token.Bench(s); !slices.Equal(got, want) || at != 0 || e != api.OK {
			t.Errorf("%q: %v %d %v", s, got, at, e)
		}
	}
}

func TestBenchWrong(t *testing.T) {
	for c := range 256 {
		b := byte(c)
		bad := b != 9 && b != 10 && b != 13 && (b < 32 || b > 126)
		got, at, e := token.Bench("ab " + string([]byte{b}) + " c")
		if bad != (e == api.ErrSyntax) || bad && (at != 3 || len(got) != 0) || !bad && at != 0 {
			t.Error(c, got, at, e)
		}
	}
}

func TestVerilog(t *testing.T) {
	for s, want := range map[string][]token.Token{
		"":                     nil,
		"// a\n/* b \n * / */": nil,
		"and (z,a_1$);":        {{0, "and", 0}, {1, "(", 4}, {0, "z", 5}, {1, ",", 6}, {0, "a_1$", 7}, {1, ")", 11}, {1, ";", 12}},
		"1'b0=~x&y|w^v":        {{0, "1'b0", 0}, {1, "=", 4}, {1, "~", 5}, {0, "x", 6}, {1, "&", 7}, {0, "y", 8}, {1, "|", 9}, {0, "w", 10}, {1, "^", 11}, {0, "v", 12}},
		"\\a(1)//;b c":         {{2, "a(1)//;b", 0}, {0, "c", 10}},
		"\\\\\nx":              {{2, "\\", 0}, {0, "x", 3}},
		"a/*/b*/c":             {{0, "a", 0}, {0, "c", 7}},
		"a/**/c":               {{0, "a", 0}, {0, "c", 5}},
		"a//b\xff\nc":          {{0, "a", 0}, {0, "c", 6}},
		"a//":                  {{0, "a", 0}},
		"a/*\xff*/\t\r":        {{0, "a", 0}},
	} {
		if got, at, e := token.Verilog(s); !slices.Equal(got, want) || at != 0 || e != api.OK {
			t.Errorf("%q: %v %d %v", s, got, at, e)
		}
	}
}

func TestVerilogWrong(t *testing.T) {
	for s, want := range map[string]int{
		"a /": 2, "a / b": 2, "a /*": 2, "a /*/": 2, "/**": 0, "a \\": 2, "a \\ b": 2, "a\\\n": 1, "a\\\x7f": 1, "a #": 2, "a.b": 1, "a[0]": 1, "\xe9": 0, "a\x00": 1,
	} {
		if got, at, e := token.Verilog(s); len(got) != 0 || at != want || e != api.ErrSyntax {
			t.Errorf("%q: %v %d %v", s, got, at, e)
		}
	}
}

func TestVerilogBytes(t *testing.T) {
	good := "\t\n\r ();,=~&|^_$'"
	for c := range 256 {
		b := byte(c)
		ok := strings.IndexByte(good, b) >= 0 || '0' <= b && b <= '9' || 'a' <= b && b <= 'z' || 'A' <= b && b <= 'Z'
		if _, _, e := token.Verilog("x " + string([]byte{b}) + " x"); ok != (e == api.OK) {
			t.Error(c, e)
		}
	}
}

func TestSame(t *testing.T) {
	a := []token.Token{{0, "a", 1}, {3, "", 2}}
	if !token.Same(a, slices.Clone(a)) || !token.Same(nil, []token.Token{}) {
		t.Error("alike, and told not to be")
	}
	for _, b := range [][]token.Token{nil, a[:1], {{1, "a", 1}, {3, "", 2}}, {{0, "b", 1}, {3, "", 2}}, {{0, "a", 1}, {3, "", 3}}} {
		if token.Same(a, b) || token.Same(b, a) {
			t.Error(b)
		}
	}
}

func TestTexts(t *testing.T) {
	if l := token.Texts([]token.Token{{0, "a", 1}, {3, "", 2}, {1, "=", 3}}); !slices.Equal(l, []string{"a", "", "="}) {
		t.Error(l)
	}
	if l := token.Texts(nil); len(l) != 0 {
		t.Error(l)
	}
}

// words are the texts of the tokens that are words, as a text of Verilog needs them.
func words(l []token.Token) []string {
	var all []string
	for _, x := range l {
		switch x.Kind {
		case 0:
			all = append(all, x.Text)
		case 2:
			all = append(all, "\\"+x.Text)
		}
	}
	return all
}

func TestWordsAreTheSameAgain(t *testing.T) {
	readers := map[string]func(string) []token.Token{
		"blif":    token.Blif,
		"bench":   func(s string) []token.Token { l, _, _ := token.Bench(s); return l },
		"verilog": func(s string) []token.Token { l, _, _ := token.Verilog(s); return l },
	}
	for name, read := range readers {
		for _, s := range []string{"a b\nc", ".names a\\b # x\n1 1", "z = DFF(q) # x", "\\a+b ~\\c&d e'1", "\\\\x y"} {
			l := words(read(s))
			if again := words(read(strings.Join(l, " "))); !slices.Equal(l, again) {
				t.Errorf("%s %q: %q, then %q", name, s, l, again)
			}
		}
	}
}

func FuzzAll(f *testing.F) {
	f.Add("a\\\n#b/*'()")
	f.Fuzz(func(t *testing.T, s string) {
		for _, l := range [][]token.Token{token.Blif(s), first(token.Bench(s)), first(token.Verilog(s))} {
			last := -1
			for _, x := range l {
				if x.At <= last || x.At > len(s) || x.Kind != 3 && x.Text == "" {
					t.Error(x)
				}
				last = x.At
			}
		}
	})
}

func first(l []token.Token, _ int, _ api.Errno) []token.Token { return l }
