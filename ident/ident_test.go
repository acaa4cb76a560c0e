package ident_test

import (
	"slices"
	"strconv"
	"strings"
	"testing"

	"patchbay/api"
	"patchbay/ident"
	"patchbay/token"
)

var formats = []api.Format{api.FmtAag, api.FmtAig, api.FmtBlif, api.FmtBench, api.FmtVerilog}

// names are names of many looks; those that a format may not take as they are among them.
var names = []string{
	"a", "A1", "_", "$a", "1", "1'b0", ".a", "a.b", "#", "a#b", "\\", "\\a", "a\\b", "a(1)", "(", ")", "=", ",", "a,b", "~!", "+a", "-a",
	"x__", "x__61", "x__612", "x__7g", "x__7A", "x__785f5f", "X__a", "x_", "module", "endmodule", "input", "output", "wire", "assign", "buf",
	"not", "and", "nand", "or", "nor", "xor", "xnor", "dff0", "dff1", "dffx", "dff", "Module", "INPUT", "n1", "a$b", "/", "//", "/*",
	strings.Repeat("a", 40), strings.Repeat("(", 40), "x__" + strings.Repeat("6", 36), "x__" + strings.Repeat("6", 37),
}

var noNames = []string{"", " ", "a b", "a\n", "\x7f", "\xff", "\x00", "é", strings.Repeat("a", 41), "a "}

func TestName(t *testing.T) {
	for _, s := range names {
		if !ident.Name(s) {
			t.Error(s)
		}
	}
	for _, s := range noNames {
		if ident.Name(s) {
			t.Error(s)
		}
	}
	for c := range 256 {
		if ident.Name(string([]byte{byte(c)})) != (33 <= c && c <= 126) {
			t.Error(c)
		}
	}
}

func TestLegal(t *testing.T) {
	verilog := strings.Fields("a A1 _ x__ x__61 x__612 x__7g x__7A x__785f5f X__a x_ dff Module INPUT n1 a$b")
	for _, s := range names {
		want := []bool{true, true, !strings.ContainsAny(s, "#\\") && s[0] != '.', !strings.ContainsAny(s, "=(),#"), slices.Contains(verilog, s)}
		if len(s) > 30 {
			want[4] = s[0] != '('
		}
		for i, f := range formats {
			if ident.Legal(f, s) != want[i] {
				t.Error(f, s)
			}
		}
		if ident.Legal(-1, s) || ident.Legal(5, s) {
			t.Error(s)
		}
	}
	for _, f := range formats {
		for _, s := range noNames {
			if ident.Legal(f, s) {
				t.Errorf("%v %q", f, s)
			}
		}
	}
}

func TestLegalBytes(t *testing.T) {
	for c := range 256 {
		s := string([]byte{byte(c)})
		letter := 'a' <= c && c <= 'z' || 'A' <= c && c <= 'Z' || c == '_'
		if ident.Legal(api.FmtVerilog, s) != letter {
			t.Errorf("%q", s)
		}
		if ident.Legal(api.FmtVerilog, "a"+s) != (letter || '0' <= c && c <= '9' || c == '$') {
			t.Errorf("a%q", s)
		}
		seen := 33 <= c && c <= 126
		if ident.Legal(api.FmtBlif, "a"+s) != (seen && c != '#' && c != '\\') || ident.Legal(api.FmtBench, "a"+s) != (seen && !strings.Contains("=(),#", s)) {
			t.Errorf("a%q", s)
		}
	}
}

func TestSpell(t *testing.T) {
	for _, x := range []struct {
		f       api.Format
		s, want string
	}{
		{api.FmtAag, "a(1)", "a(1)"}, {api.FmtAig, "x__#", "x__#"},
		{api.FmtBlif, "a(1)", "a(1)"}, {api.FmtBlif, ".a", "x__2e61"}, {api.FmtBlif, "a.", "a."}, {api.FmtBlif, "#", "x__23"},
		{api.FmtBlif, "\\", "x__5c"}, {api.FmtBlif, "x__", "x__785f5f"}, {api.FmtBlif, "x_", "x_"}, {api.FmtBlif, "x__~", "x__785f5f7e"},
		{api.FmtBench, "a(1)", "x__61283129"}, {api.FmtBench, ".a", ".a"}, {api.FmtBench, "\\", "\\"}, {api.FmtBench, "x__61", "x__785f5f3631"},
		{api.FmtBench, "J,O", "x__4a2c4f"}, {api.FmtBench, "INPUT", "INPUT"},
		{api.FmtVerilog, "a", "a"}, {api.FmtVerilog, "x__61", "x__61"}, {api.FmtVerilog, "a(1)", "\\a(1) "}, {api.FmtVerilog, "and", "\\and "},
		{api.FmtVerilog, "\\a", "\\\\a "}, {api.FmtVerilog, "1", "\\1 "},
	} {
		if got, e := ident.Spell(x.f, x.s); got != x.want || e != api.OK {
			t.Errorf("%v %q: %q %v", x.f, x.s, got, e)
		}
	}
}

func TestSpellWrong(t *testing.T) {
	for _, s := range noNames {
		for _, f := range append(slices.Clone(formats), -1, 5) {
			if got, e := ident.Spell(f, s); got != "" || e != api.ErrName {
				t.Errorf("%v %q: %q %v", f, s, got, e)
			}
		}
	}
	for _, f := range []api.Format{-1, 5, 1 << 40} {
		if got, e := ident.Spell(f, "a"); got != "" || e != api.ErrForm {
			t.Error(f, got, e)
		}
	}
}

func TestRead(t *testing.T) {
	for _, x := range []struct {
		f       api.Format
		s, want string
	}{
		{api.FmtAag, "x__61", "x__61"}, {api.FmtAig, "\\a", "\\a"},
		{api.FmtBlif, "x__2e61", ".a"}, {api.FmtBlif, "x__61", "x__61"}, {api.FmtBlif, "x__2E61", "x__2E61"}, {api.FmtBlif, "x__2e6", "x__2e6"},
		{api.FmtBlif, "x__", "x__"}, {api.FmtBlif, "x__785f5f", "x__"}, {api.FmtBlif, "x__785f5f3631", "x__61"}, {api.FmtBlif, "x__28", "x__28"},
		{api.FmtBlif, "x__0a", "x__0a"}, {api.FmtBlif, "a=(", "a=("},
		{api.FmtBench, "x__28", "("}, {api.FmtBench, "x__2e61", "x__2e61"}, {api.FmtBench, "a\\b", "a\\b"},
		{api.FmtBench, "x__" + strings.Repeat("28", 40), strings.Repeat("(", 40)},
		{api.FmtVerilog, "a", "a"}, {api.FmtVerilog, "a(1)", "a(1)"}, {api.FmtVerilog, "\\a", "\\a"}, {api.FmtVerilog, "and", "and"}, {api.FmtVerilog, "x__28", "x__28"},
	} {
		if got, e := ident.Read(x.f, x.s); got != x.want || e != api.OK {
			t.Errorf("%v %q: %q %v", x.f, x.s, got, e)
		}
	}
}

func TestReadWrong(t *testing.T) {
	for _, f := range formats {
		for _, s := range noNames {
			if got, e := ident.Read(f, s); got != "" || e != api.ErrName {
				t.Errorf("%v %q: %q %v", f, s, got, e)
			}
		}
	}
	for _, x := range []struct {
		f api.Format
		s string
	}{
		{api.FmtBlif, ".a"}, {api.FmtBlif, "#"}, {api.FmtBlif, "a\\"}, {api.FmtBench, "a(1)"}, {api.FmtBench, "x__#"},
		{api.FmtBench, "x__" + strings.Repeat("28", 41)}, {api.FmtBlif, "x__" + strings.Repeat("61", 40)},
	} {
		if got, e := ident.Read(x.f, x.s); got != "" || e != api.ErrName {
			t.Errorf("%v %q: %q %v", x.f, x.s, got, e)
		}
	}
	for _, f := range []api.Format{-1, 5} {
		for _, s := range []string{"a", "", "a b"} {
			if got, e := ident.Read(f, s); got != "" || e != api.ErrForm {
				t.Errorf("%v %q: %q %v", f, s, got, e)
			}
		}
	}
}

func TestWhatIsSpelledIsReadAgain(t *testing.T) {
	for _, f := range formats {
		from := map[string]string{}
		for _, s := range names {
			spelled, _ := ident.Spell(f, s)
			if before, ok := from[spelled]; ok {
				t.Errorf("%v: %q and %q are both spelled %q", f, before, s, spelled)
			}
			from[spelled] = s
			bare := spelled
			if f == api.FmtVerilog && strings.HasPrefix(spelled, "\\") {
				bare = spelled[1 : len(spelled)-1]
			}
			if back, e := ident.Read(f, bare); back != s || e != api.OK {
				t.Errorf("%v: %q is spelled %q and read %q", f, s, spelled, back)
			}
		}
	}
}

// tokens is how each format of tokens cuts a text.
func tokens(f api.Format, s string) []token.Token {
	switch f {
	case api.FmtBlif:
		return token.Blif(s)
	case api.FmtBench:
		l, _, _ := token.Bench(s)
		return l
	}
	l, _, _ := token.Verilog(s)
	return l
}

func TestWhatIsSpelledIsOneToken(t *testing.T) {
	for _, f := range formats[2:] {
		for _, s := range names {
			spelled, _ := ident.Spell(f, s)
			l := tokens(f, spelled)
			if got, e := ident.Word(f, l[0]); got != s || e != api.OK {
				t.Errorf("%v: %q: %q %v", f, spelled, got, e)
			}
			if n := len(l); n != 1 && (f != api.FmtBlif || n != 2) {
				t.Error(f, s, l)
			}
		}
	}
}

func TestWord(t *testing.T) {
	for _, x := range []struct {
		f    api.Format
		t    token.Token
		want string
		e    api.Errno
	}{
		{api.FmtBlif, token.Token{Kind: 0, Text: "x__2e"}, ".", 0},
		{api.FmtBlif, token.Token{Kind: 0, Text: ".a"}, "", api.ErrName},
		{api.FmtBlif, token.Token{Kind: 3, Text: "a"}, "", api.ErrName},
		{api.FmtBlif, token.Token{Kind: 2, Text: "a"}, "", api.ErrName},
		{api.FmtBench, token.Token{Kind: 1, Text: "a"}, "", api.ErrName},
		{api.FmtBench, token.Token{Kind: 1, Text: "("}, "", api.ErrName},
		{api.FmtVerilog, token.Token{Kind: 0, Text: "a"}, "a", 0},
		{api.FmtVerilog, token.Token{Kind: 0, Text: "and"}, "", api.ErrName},
		{api.FmtVerilog, token.Token{Kind: 0, Text: "1'b0"}, "", api.ErrName},
		{api.FmtVerilog, token.Token{Kind: 2, Text: "and"}, "and", 0},
		{api.FmtVerilog, token.Token{Kind: 2, Text: "1'b0"}, "1'b0", 0},
		{api.FmtVerilog, token.Token{Kind: 2, Text: strings.Repeat("a", 41)}, "", api.ErrName},
		{api.FmtVerilog, token.Token{Kind: 1, Text: "a"}, "", api.ErrName},
		{api.FmtVerilog, token.Token{Kind: -1, Text: "a"}, "", api.ErrName},
		{api.FmtAag, token.Token{Kind: 0, Text: "#"}, "#", 0},
		{9, token.Token{Kind: 0, Text: "a"}, "", api.ErrForm},
		{9, token.Token{Kind: 1, Text: "a"}, "", api.ErrName},
		{9, token.Token{Kind: 2, Text: "a"}, "", api.ErrName},
	} {
		if got, e := ident.Word(x.f, x.t); got != x.want || e != x.e {
			t.Error(x, got, e)
		}
	}
}

func TestFind(t *testing.T) {
	l := tokens(api.FmtVerilog, "and (z, \\and , b, \\z );")
	for s, want := range map[string]int{"z": 5, "and": 8, "b": 15, "(": 0, "y": 0, "": 0} {
		if at := ident.Find(api.FmtVerilog, l, s); at != want {
			t.Error(s, at)
		}
	}
	l = tokens(api.FmtBench, "x = NOT(x__28)")
	for s, want := range map[string]int{"(": 8, "NOT": 4, "x__28": 0} {
		if at := ident.Find(api.FmtBench, l, s); at != want {
			t.Error(s, at)
		}
	}
	if at := ident.Find(7, l, "x"); at != 0 {
		t.Error(at)
	}
}

func TestFresh(t *testing.T) {
	var used []string
	for i := range 30 {
		used = append(used, "n"+strconv.Itoa(30-i))
	}
	for _, x := range []struct {
		used       []string
		stem, want string
	}{
		{nil, "n", "n1"}, {[]string{"n1", "n3", "", "n1"}, "n", "n2"}, {used, "n", "n31"}, {used, "m", "m1"}, {[]string{"1"}, "", "2"}, {[]string{"n01", "n"}, "n", "n1"},
	} {
		if s := ident.Fresh(x.used, x.stem); s != x.want {
			t.Error(x, s)
		}
	}
}
