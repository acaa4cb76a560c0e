package aiger_test

import (
	"math/rand"
	"slices"
	"strconv"
	"strings"
	"testing"

	"patchbay/aig"
	"patchbay/aiger"
	"patchbay/api"
	"patchbay/lower"
	"patchbay/raise"
	"patchbay/sample"
	"patchbay/spot"
)

// cut is a text without its mark @, and where that stood.
func cut(s string) (string, int) {
	at := strings.IndexByte(s, '@')
	return s[:at] + s[at+1:], at
}

func TestHeader(t *testing.T) {
	for s, want := range map[string][9]int{
		"aag 0 0 0 0 0\n":                  {},
		"aag 9 1 2 3 4\nrest":              {9, 1, 2, 3, 4},
		"aag 9 1 2 3 4 5\n":                {9, 1, 2, 3, 4, 5},
		"aag 9 1 2 3 4 5 6 0 0\n":          {9, 1, 2, 3, 4, 5, 6, 0, 0},
		"aag 4000 4000 0 4000 0\n":         {4000, 4000, 0, 4000, 0},
		"aag 4000 1 1 1 3998 1999 2000\n ": {4000, 1, 1, 1, 3998, 1999, 2000},
	} {
		h, behind, f := aiger.Header(s, "aag")
		if h != want || behind != strings.IndexByte(s, '\n')+1 || f != (api.Fail{}) {
			t.Errorf("%q: %v %d %v", s, h, behind, f)
		}
	}
	for _, magic := range []string{"xYz", "azm", "AZM"} {
		if h, behind, f := aiger.Header(magic+" 1 1 0 0 0\n", magic); h != [9]int{1, 1} || behind != 14 || f != (api.Fail{}) {
			t.Error(magic, h, behind, f)
		}
	}
}

func TestHeaderWrong(t *testing.T) {
	for marked, e := range map[string]api.Errno{
		"@":                                  api.ErrSyntax,
		"@aa":                                api.ErrSyntax,
		"@aig 0 0 0 0 0\n":                   api.ErrSyntax,
		"@ aag 0 0 0 0 0\n":                  api.ErrSyntax,
		"aag@":                               api.ErrSyntax,
		"aag@\n":                             api.ErrSyntax,
		"aagx@":                              0,
		"aag @":                              api.ErrNumber,
		"aag @ 0 0 0 0 0\n":                  api.ErrNumber,
		"aag 0 @01 0 0 0\n":                  api.ErrNumber,
		"aag 0 0 @x 0 0\n":                   api.ErrNumber,
		"aag 0 0 0 @2147483648 0\n":          api.ErrNumber,
		"aag 0 0 0 0@\n":                     api.ErrSyntax,
		"aag 0 0 0@\t0 0\n":                  api.ErrSyntax,
		"aag 0 0 0 0 0@":                     api.ErrSyntax,
		"aag 0 0 0 0 0@\r\n":                 api.ErrSyntax,
		"aag 0 0 0 0 0 @\n":                  api.ErrNumber,
		"aag 0 0 0 0 0 0 0 0 0@ 0\n":         api.ErrSyntax,
		"@aag 9999 0 0 0 0 0 0 1\n":          api.ErrForm,
		"@aag 9999 0 0 0 0 0 0 0 1\n":        api.ErrForm,
		"@aag 4001 0 0 0 0\n":                api.ErrLimit,
		"@aag 3 2 1 0 1\n":                   api.ErrLimit,
		"@aag 0 2147483647 2147483647 0 0\n": api.ErrLimit,
		"@aag 0 0 0 4001 0\n":                api.ErrLimit,
		"@aag 0 0 0 2000 0 1000 1001\n":      api.ErrLimit,
	} {
		s, at := cut(marked)
		want := spot.Fail(s, at, e)
		if e == 0 {
			want = spot.Fail(s, 3, api.ErrSyntax)
		}
		if h, behind, f := aiger.Header(s, "aag"); h != [9]int{} || behind != 0 || f != want {
			t.Errorf("%q: %v %d %v", s, h, behind, f)
		}
		if e != 0 && strings.HasPrefix(s, "aag") {
			if m, f := aiger.Parse(s); !lower.Same(m, api.Model{}) || f != want {
				t.Errorf("%q: %v %v", s, m, f)
			}
		}
	}
	for _, magic := range []string{"", "aa", "aag ", "a1g", "aag 0", "a`g", "a{g", "a@g", "a[g"} {
		if h, behind, f := aiger.Header(magic+" 0 0 0 0 0\n", magic); h != [9]int{} || behind != 0 || f != (api.Fail{Err: api.ErrSyntax, Line: 1, Col: 1}) {
			t.Error(magic, h, behind, f)
		}
	}
}

func TestSymbols(t *testing.T) {
	many := [5]int{2, 1, 3, 1, 1}
	for _, x := range []struct {
		s    string
		want string
	}{
		{"", "i0 i1 l0 o0 o1 o2 b0 c0"},
		{"o2 x\ni0 y\nb0 l0\nl0 #\\(\n", "y i1 #\\( o0 o1 x l0 c0"},
		{"i1 a\nc\ni0 wrong\n?", "i0 a l0 o0 o1 o2 b0 c0"},
		{"c0 k\nc", "i0 i1 l0 o0 o1 o2 b0 k"},
		{"c", "i0 i1 l0 o0 o1 o2 b0 c0"},
		{"i0 same\ni1 same\n", "same same l0 o0 o1 o2 b0 c0"},
	} {
		for _, at := range []int{0, 7} {
			s := strings.Repeat("\n", at) + x.s
			names, f := aiger.Symbols(s, at, many)
			if got := strings.Join(slices.Concat(names[:]...), " "); got != x.want || f != (api.Fail{}) {
				t.Errorf("%q: %v %v", s, got, f)
			}
		}
	}
	for _, at := range []int{-1, 6, 99} {
		if names, f := aiger.Symbols("wrong", at, [5]int{1, -1, 0, -5, 2}); f != (api.Fail{}) || strings.Join(slices.Concat(names[:]...), " ") != "i0 c0 c1" {
			t.Error(at, names, f)
		}
	}
	if names, f := aiger.Symbols("i3999 last\n", 0, [5]int{5000}); len(names[0]) != 4000 || names[0][3999] != "last" || f != (api.Fail{}) {
		t.Error(len(names[0]), f)
	}
}

func TestSymbolsWrong(t *testing.T) {
	for marked, e := range map[string]api.Errno{
		"@j0 x\n":             api.ErrSyntax,
		"@\ni0 x\n":           api.ErrSyntax,
		"@ i0 x\n":            api.ErrSyntax,
		"@c\r\n":              0,
		"i@ 0 x\n":            api.ErrNumber,
		"i@":                  api.ErrNumber,
		"i@00 x\n":            api.ErrNumber,
		"i0@":                 api.ErrSyntax,
		"i9@x\n":              api.ErrSyntax,
		"i9 x@":               api.ErrSyntax,
		"i0 @":                api.ErrSyntax,
		"i@2 \n":              api.ErrArg,
		"l@1 x\n":             api.ErrArg,
		"b@1 x\n":             api.ErrArg,
		"c@0 x\n":             api.ErrArg,
		"i0 @\n":              api.ErrName,
		"i0 @a b\n":           api.ErrName,
		"i0 @x \n":            api.ErrName,
		"i0 x\ni0 @a\x7f\n":   api.ErrName,
		"i0 x\nl0 y\n@i0 x\n": api.ErrTwice,
	} {
		s, at := cut(marked)
		want := spot.Fail(s, at, e)
		if e == 0 {
			want = spot.Fail(s, 1, api.ErrNumber)
		}
		if names, f := aiger.Symbols(s, 0, [5]int{2, 1, 1, 1, 0}); f != want || len(slices.Concat(names[:]...)) != 0 {
			t.Errorf("%q: %v %v", s, names, f)
		}
	}
	if _, f := aiger.Symbols("i4000 x\n", 0, [5]int{5000}); f.Err != api.ErrArg {
		t.Error(f)
	}
}

func TestParse(t *testing.T) {
	for s, want := range map[string]api.Model{
		"aag 0 0 0 0 0\n":    {},
		"aag 0 0 0 1 0\n1\n": {Graph: api.Graph{Outs: []int{1}}, Outputs: []string{"o0"}},
		"aag 9 2 2 2 2 1 1\n18\n4\n12 7 12\n10 0\n2\n11\n18\n1\n2 6 6\n6 19 12\nl1 q\nb0 bad\nc\nanything": {
			Graph: api.Graph{
				Ins: 2, Next: []int{11, 0}, Init: []int{2, 0}, Ands: [][2]int{{3, 6}, {10, 10}}, Outs: []int{12, 9, 2, 1},
			},
			Inputs: []string{"i0", "i1"}, Latches: []string{"l0", "q"}, Outputs: []string{"o0", "o1", "bad", "c0"},
		},
		"aag 0 0 0 0 0 2 0\n0\n1\nb1 x\n": {Graph: api.Graph{Outs: []int{0, 1}}, Outputs: []string{"b0", "x"}},
		"aag 0 0 0 0 0 0 2\n0\n1\nc1 x\n": {Graph: api.Graph{Outs: []int{0, 1}}, Outputs: []string{"c0", "x"}},
		"aag 3 1 2 0 0\n2\n4 2 0\n6 5 1\n": {
			Graph: api.Graph{Ins: 1, Next: []int{2, 5}, Init: []int{0, 1}}, Inputs: []string{"i0"}, Latches: []string{"l0", "l1"},
		},
		"aag 1 1 0 1 0\n2\n2\ni0 a\no0 a\n": {Graph: api.Graph{Ins: 1, Outs: []int{2}}, Inputs: []string{"a"}, Outputs: []string{"a"}},
	} {
		m, f := aiger.Parse(s)
		if !lower.Same(m, want) || f != (api.Fail{}) {
			t.Errorf("%q: %v %v", s, m, f)
		}
	}
}

func TestAndsComeAsGatesDo(t *testing.T) {
	// 6 waits for 10, which waits for 12; 8 waits for none: it comes first, then 12, and then 10 lets 6 come ahead of 14.
	m, f := aiger.Parse("aag 7 2 0 1 5\n2\n4\n7\n6 10 2\n8 2 4\n10 12 2\n12 4 2\n14 8 2\n")
	want := api.Graph{Ins: 2, Ands: [][2]int{{2, 4}, {4, 2}, {8, 2}, {10, 2}, {6, 2}}, Outs: []int{13}}
	if !aig.Same(m.Graph, want) || f != (api.Fail{}) {
		t.Error(m.Graph, f)
	}
}

func TestParseWrong(t *testing.T) {
	for marked, e := range map[string]api.Errno{
		"aag 1 1 0 0 0\n@":                                     api.ErrNumber,
		"aag 1 1 0 0 0\n@x\n":                                  api.ErrNumber,
		"aag 1 1 0 0 0\n@\n":                                   api.ErrNumber,
		"aag 1 1 0 0 0\n2@":                                    api.ErrSyntax,
		"aag 1 1 0 0 0\n2@ \n":                                 api.ErrSyntax,
		"aag 1 1 0 0 0\n@3\n":                                  api.ErrArg,
		"aag 1 1 0 0 0\n@0\n":                                  api.ErrArg,
		"aag 1 1 0 0 0\n@1\n":                                  api.ErrArg,
		"aag 1 1 0 0 0\n@4\n":                                  api.ErrArg,
		"aag 2 2 0 0 0\n4\n@4\n":                               api.ErrTwice,
		"aag 2 1 1 0 0\n4\n@4 0\n":                             api.ErrTwice,
		"aag 2 0 1 0 0\n@5 0\n":                                api.ErrArg,
		"aag 2 0 1 0 0\n4@\n":                                  api.ErrSyntax,
		"aag 2 0 1 0 0\n4 @\n":                                 api.ErrNumber,
		"aag 2 0 1 0 0\n4 @6\n":                                api.ErrArg,
		"aag 2 0 1 0 0\n4 @6 7\n":                              api.ErrArg,
		"aag 2 0 1 0 0\n4 5 @2\n":                              api.ErrArg,
		"aag 2 0 1 0 0\n4 5 @5\n":                              api.ErrArg,
		"aag 2 0 1 0 0\n4 5 @\n":                               api.ErrNumber,
		"aag 2 0 1 0 0\n4 5 4@ 0\n":                            api.ErrSyntax,
		"aag 2 0 0 1 0\n@6\n":                                  api.ErrArg,
		"aag 2 0 0 0 0 1\n@6\n":                                api.ErrArg,
		"aag 2 0 0 0 0 0 1\n@6\n":                              api.ErrArg,
		"aag 2 0 0 1 0\n0@ 0\n":                                api.ErrSyntax,
		"aag 2 1 0 0 1\n2\n@2 0 0\n":                           api.ErrTwice,
		"aag 2 1 0 0 1\n2\n@5 0 0\n":                           api.ErrArg,
		"aag 2 1 0 0 1\n2\n4 @6 0\n":                           api.ErrArg,
		"aag 2 1 0 0 1\n2\n4 0 @6\n":                           api.ErrArg,
		"aag 2 1 0 0 1\n2\n4 0@\n":                             api.ErrSyntax,
		"aag 2 1 0 0 1\n2\n4 0 0@ 0\n":                         api.ErrSyntax,
		"aag 2 1 0 0 1\n2\n4 0 0@":                             api.ErrSyntax,
		"aag 1 0 0 1 0\n3\n@i0 x\n":                            0,
		"aag 1 0 0 1 0\n3\n@?\n":                               api.ErrSyntax,
		"aag 1 0 0 1 0\n@2\n":                                  api.ErrNone,
		"aag 1 0 0 1 0\n@3\n":                                  api.ErrNone,
		"aag 5 0 2 1 1\n4 @6 0\n2 8\n8\n10 6 8\n":              api.ErrNone,
		"aag 5 0 2 1 1\n4 4 0\n2 @8\n8\n10 6 8\n":              api.ErrNone,
		"aag 5 0 2 1 1\n4 4 0\n2 4\n@9\n10 6 8\n":              api.ErrNone,
		"aag 5 0 2 1 1\n4 4 0\n2 4\n5\n10 @6 8\n":              api.ErrNone,
		"aag 5 0 2 1 1\n4 4 0\n2 4\n5\n10 1 @9\n":              api.ErrNone,
		"aag 5 0 2 1 1\n4 4 0\n2 4\n5\n@10 1 11\n":             api.ErrLoop,
		"aag 5 1 0 1 4\n2\n4\n4 2 2\n@6 8 4\n10 4 4\n8 10 6\n": api.ErrLoop,
		"@aag 1 1 0 1 0\n2\n3\ni0 o0\n":                        api.ErrTwice,
		"@aag 1 1 0 0 0 1 1\n2\n2\n2\nc0 b0\n":                 api.ErrTwice,
		"@aag 2 2 0 0 0\n2\n4\ni0 i1\n":                        api.ErrTwice,
	} {
		s, at := cut(marked)
		want := spot.Fail(s, at, e)
		if e == 0 {
			want = spot.Fail(s, at+1, api.ErrArg)
		}
		if m, f := aiger.Parse(s); !lower.Same(m, api.Model{}) || f != want {
			t.Errorf("%q: %v, want %v", s, f, want)
		}
	}
}

func TestPrint(t *testing.T) {
	m := api.Model{
		Graph:   api.Graph{Ins: 2, Next: []int{11, 1, 4}, Init: []int{0, 1, 2}, Ands: [][2]int{{2, 4}, {12, 12}, {2, 2}}, Outs: []int{15, 13, 2}},
		Inputs:  []string{"a", "b"},
		Latches: []string{"p", "q", "r"},
		Outputs: []string{"y", "z", "a"},
	}
	want := "aag 6 2 3 3 1\n2\n4\n6 11\n8 1 1\n10 4 10\n13\n13\n2\n12 4 2\ni0 a\ni1 b\nl0 p\nl1 q\nl2 r\no0 y\no1 z\no2 a\n"
	if s, e := aiger.Print(m); s != want || e != api.OK {
		t.Errorf("%q %v", s, e)
	}
	if s, e := aiger.Print(api.Model{}); s != "aag 0 0 0 0 0\n" || e != api.OK {
		t.Error(s, e)
	}
	for i, change := range []func(m *api.Model){
		func(m *api.Model) { m.Graph.Ins = 4001 },
		func(m *api.Model) { m.Graph.Outs[0] = 99 },
		func(m *api.Model) { m.Inputs = nil },
		func(m *api.Model) { m.Inputs[0] = "" },
		func(m *api.Model) { m.Outputs[0] = "z" },
	} {
		n, _ := raise.Normal(m)
		change(&n)
		if s, e := aiger.Print(n); s != "" || e != lower.Check(n) || e == api.OK {
			t.Error(i, s, e)
		}
	}
}

func TestTail(t *testing.T) {
	if s := aiger.Tail(api.Model{Inputs: []string{"a", "b"}, Outputs: []string{"", "x y"}, Latches: []string{"q"}}); s != "i0 a\ni1 b\nl0 q\no0 \no1 x y\n" {
		t.Errorf("%q", s)
	}
	if s := aiger.Tail(api.Model{}); s != "" {
		t.Error(s)
	}
}

func TestWhatIsPrintedIsParsedAgain(t *testing.T) {
	r := rand.New(rand.NewSource(6))
	size := sample.Size{Inputs: [2]int{0, 3}, Latches: [2]int{0, 3}, Gates: [2]int{0, 11}, Outputs: [2]int{0, 4}}
	for range 1000 {
		m := sample.Model(r.Intn, size, "in", "#", "l")
		n, _ := raise.Normal(m)
		s, e := aiger.Print(m)
		back, f := aiger.Parse(s)
		if e != api.OK || f != (api.Fail{}) || !lower.Same(back, n) {
			t.Fatal(m, s, back, f)
		}
	}
}

func TestManyAnds(t *testing.T) {
	var b strings.Builder
	b.WriteString("aag 4000 1 0 1 3999\n2\n8000\n")
	for i := 4000; i > 1; i-- { // each one waits for the next line's
		b.WriteString(strconv.Itoa(2*i) + " " + strconv.Itoa(2*i-2) + " " + strconv.Itoa(2*i-1) + "\n")
	}
	m, f := aiger.Parse(b.String())
	if len(m.Graph.Ands) != 3999 || m.Graph.Outs[0] != 8000 || f != (api.Fail{}) {
		t.Error(len(m.Graph.Ands), f)
	}
}

func FuzzParse(f *testing.F) {
	f.Add("aag 9 2 2 2 2 1 1\n18\n4\n12 7 12\n10 0\n2\n11\n18\n1\n2 6 6\n6 19 12\nl1 q\nb0 bad\nc\nanything")
	f.Fuzz(func(t *testing.T, s string) {
		m, fail := aiger.Parse(s)
		if fail.Err != api.OK {
			if !lower.Same(m, api.Model{}) {
				t.Error(m, fail)
			}
			return
		}
		if e := lower.Check(m); e != api.OK {
			t.Error(e)
		}
		printed, _ := aiger.Print(m)
		if n, _ := raise.Normal(m); !lower.Same(n, first(aiger.Parse(printed))) {
			t.Error(printed)
		}
	})
}

func first(m api.Model, _ api.Fail) api.Model { return m }
