package blif_test

import (
	"math/rand"
	"slices"
	"strings"
	"testing"

	"patchbay/api"
	"patchbay/blif"
	"patchbay/net"
	"patchbay/order"
	"patchbay/sample"
	"patchbay/spot"
)

func gate(op api.Op, name string, ins ...string) api.Gate {
	return api.Gate{Name: name, Op: op, Ins: ins}
}

func TestParse(t *testing.T) {
	for s, want := range map[string]api.Circuit{
		".model\n.end": {},
		"\n# x\n.model top # y\n\n.inputs\n.outputs\n .end \n\n# z": {},
		".model m\n.inputs a b\n.outputs z\n.names a b z\n11 1\n.end\n": {
			Inputs: []string{"a", "b"}, Outputs: []string{"z"}, Gates: []api.Gate{gate(api.OpAnd, "z", "a", "b")},
		},
		".model .x\n.outputs z\n.inputs a\n.latch z q\n.latch a p 0\n.outputs p \\\n q\n.latch p r 1\n.inputs x__23\n.latch q s 2\n.latch s u 3\n.names q\\\n z\n0 1\n.end": {
			Inputs: []string{"a", "#"}, Outputs: []string{"z", "p", "q"},
			Latches: []api.Latch{{Name: "q", Next: "z", Init: 2}, {Name: "p", Next: "a"}, {Name: "r", Next: "p", Init: 1}, {Name: "s", Next: "q", Init: 2}, {Name: "u", Next: "s", Init: 2}},
			Gates:   []api.Gate{gate(api.OpNot, "z", "q")},
		},
		".model m\n.inputs a b\n.names k\n.names l\n1\n.names m\n0\n.names n\n1\n1\n.names a o\n1 1\n.names a b p\n.names a b q\n1- 0\n-1 0\n.names a b r\n00 0\n.names a a s\n01 1\n10 1\n.end": {
			Inputs: []string{"a", "b"},
			Gates: []api.Gate{
				gate(api.OpZero, "k"), gate(api.OpOne, "l"), {Name: "m", Op: api.OpCover, Rows: []string{""}, Off: true}, {Name: "n", Op: api.OpCover, Rows: []string{"", ""}},
				gate(api.OpBuf, "o", "a"), gate(api.OpCover, "p", "a", "b"),
				{Name: "q", Op: api.OpCover, Ins: []string{"a", "b"}, Rows: []string{"1-", "-1"}, Off: true},
				gate(api.OpOr, "r", "a", "b"), gate(api.OpXor, "s", "a", "a"),
			},
		},
	} {
		c, f := blif.Parse(s)
		if !net.Same(c, want) || f != (api.Fail{}) {
			t.Errorf("%q: %v %v", s, c, f)
		}
	}
}

// A mark @ stands where what is wrong stands.
func TestParseWrong(t *testing.T) {
	rows := strings.Repeat("1 1\n", 129)
	for marked, e := range map[string]api.Errno{
		"@":                           api.ErrSyntax,
		"# x\n\n@":                    api.ErrSyntax,
		"\n @.end":                    api.ErrSyntax,
		"@.foo\n.model m\n.end":       api.ErrSyntax,
		"@a b\n.model m\n.end":        api.ErrSyntax,
		"@\\ .model\n.end":            api.ErrSyntax,
		"@.model a b\n.end":           api.ErrSyntax,
		".model m@":                   api.ErrSyntax,
		".model m\n.names z\n1\n@":    api.ErrSyntax,
		".model m\n@.model m\n.end":   api.ErrSyntax,
		".model m\n@.end x":           api.ErrSyntax,
		".model m\n.end\n@.end":       api.ErrSyntax,
		".model m\n.end\n@.foo":       api.ErrSyntax,
		".model m\n.end\n@.inputs .x": api.ErrSyntax,
		".model m\n.end\n@1":          api.ErrSyntax,
		".model m\n@.foo .x\n.end":    api.ErrForm,
		".model m\n@.\n.end":          api.ErrForm,
		".model m\n@.input a\n.end":   api.ErrForm,
		".model m\n@x__2e\n.end":      api.ErrSyntax,
		".model m\n.inputs a @.b .c":  api.ErrName,
		".model m\n.inputs a @\\ b":   api.ErrName,
		".model m\n.outputs @" + strings.Repeat("a", 41):                            api.ErrName,
		".model m\n@.latch a\n.end":                                                 api.ErrSyntax,
		".model m\n@.latch .a .b 1 1\n.end":                                         api.ErrSyntax,
		".model m\n.latch @.a .b 9\n.end":                                           api.ErrName,
		".model m\n.latch a @.b 9\n.end":                                            api.ErrName,
		".model m\n.latch a b @4\n.end":                                             api.ErrArg,
		".model m\n.latch a b @re\n.end":                                            api.ErrArg,
		".model m\n.latch a b @00\n.end":                                            api.ErrArg,
		".model m\n@.names\n.end":                                                   api.ErrSyntax,
		".model m\n.names a @.z\n.end":                                              api.ErrName,
		".model m\n.names @.a .z\n.end":                                             api.ErrName,
		".model m\n@1 1\n.end":                                                      api.ErrSyntax,
		".model m\n.inputs a\n@1 1\n.end":                                           api.ErrSyntax,
		".model m\n.names z\n.latch z q\n@1\n.end":                                  api.ErrSyntax,
		".model m\n.names z\n@1 1\n.end":                                            api.ErrSyntax,
		".model m\n.names z\n@-\n.end":                                              api.ErrSyntax,
		".model m\n.names z\n1\n@0\n.end":                                           api.ErrSyntax,
		".model m\n.inputs a\n.names a z\n@1\n.end":                                 api.ErrSyntax,
		".model m\n.inputs a\n.names a z\n@11\n.end":                                api.ErrSyntax,
		".model m\n.inputs a\n.names a z\n@1 1 1\n.end":                             api.ErrSyntax,
		".model m\n.inputs a\n.names a z\n@11 1\n.end":                              api.ErrSyntax,
		".model m\n.inputs a\n.names a z\n@2 1\n.end":                               api.ErrSyntax,
		".model m\n.inputs a\n.names a z\n@1 -\n.end":                               api.ErrSyntax,
		".model m\n.inputs a\n.names a z\n@1 \\\n.end":                              api.ErrSyntax,
		".model m\n.inputs a\n.names a z\n1 1\n@0 0\n.end":                          api.ErrSyntax,
		".model m\n.inputs @a a\n.end":                                              api.ErrTwice,
		".model @a\n.inputs a a\n.end":                                              api.ErrTwice,
		".model m\n.outputs @z\n.end":                                               api.ErrNone,
		".model m\n.latch @b q\n.end":                                               api.ErrNone,
		".model m\n.names @z z\n1 1\n.end":                                          api.ErrLoop,
		".model m\n.names @x__2e y\n1 1\n.names y x__2e\n1 1\n.names x__2e q\n.end": 0,
		"@.model m\n.inputs a b c d e f g h i\n.names a b c d e f g h i z\n.end":    api.ErrLimit,
		"@.model m\n.inputs a\n.names a z\n" + rows + ".end":                        api.ErrLimit,
		"@.model m\n.inputs" + strings.Repeat(" a", 201) + "\n.end":                 api.ErrLimit,
	} {
		at := strings.IndexByte(marked, '@')
		s := marked[:at] + marked[at+1:]
		want := spot.Fail(s, at, e)
		if e == 0 { // the gate y is the first one that never comes
			want = spot.Fail(s, at+6, api.ErrLoop)
		}
		if c, f := blif.Parse(s); !net.Same(c, api.Circuit{}) || f != want {
			t.Errorf("%q: %v, want %v", s, f, want)
		}
	}
}

func TestPlain(t *testing.T) {
	two := []string{"a", "b"}
	for i, x := range []struct{ g, want api.Gate }{
		{gate(api.OpAnd, "z", "a"), gate(api.OpBuf, "z", "a")},
		{gate(api.OpXor, "z", "a", "b"), gate(api.OpXor, "z", "a", "b")},
		{api.Gate{Name: "z", Op: api.OpCover, Ins: two, Rows: []string{"11"}}, gate(api.OpAnd, "z", "a", "b")},
		{api.Gate{Name: "z", Op: api.OpCover, Ins: two}, api.Gate{Name: "z", Op: api.OpCover, Ins: two}},
		{api.Gate{Name: "z", Op: api.OpCover, Ins: two, Off: true}, api.Gate{Name: "z", Op: api.OpCover, Ins: two, Rows: []string{"--"}}},
		{api.Gate{Name: "z", Op: api.OpCover, Off: true}, gate(api.OpOne, "z")},
		{api.Gate{Name: "z", Op: api.OpCover}, gate(api.OpZero, "z")},
		{api.Gate{Name: "z", Op: api.OpCover, Rows: []string{""}, Off: true}, api.Gate{Name: "z", Op: api.OpCover, Rows: []string{""}, Off: true}},
		{api.Gate{Name: "z", Op: api.OpBuf, Off: true}, api.Gate{Name: "z", Op: api.OpBuf, Off: true}},
	} {
		got := blif.Plain(x.g)
		if !net.Same(api.Circuit{Gates: []api.Gate{got}}, api.Circuit{Gates: []api.Gate{x.want}}) {
			t.Error(i, got)
		}
		if len(got.Ins) > 0 {
			got.Ins[0] = "changed"
		}
	}
	if two[0] != "a" {
		t.Error("Plain shares memory with the gate")
	}
}

func TestPrint(t *testing.T) {
	three := []string{"a", ".b", "x__"}
	c := api.Circuit{
		Inputs: three, Outputs: []string{"y", "x__"},
		Latches: []api.Latch{{Name: "p", Next: "a"}, {Name: "q", Next: "p", Init: 1}, {Name: "#", Next: "#", Init: 2}},
		Gates: []api.Gate{
			gate(api.OpZero, "y"), gate(api.OpOne, "n"), gate(api.OpBuf, "o", "#"), gate(api.OpNot, "r", "a"), gate(api.OpAnd, "s", three...), gate(api.OpNand, "t", three...),
			gate(api.OpOr, "u", three...), gate(api.OpNor, "v", three...), gate(api.OpXor, "w", three...), gate(api.OpXnor, "x", "a", "a"),
			{Name: "c1", Op: api.OpCover, Ins: three, Rows: []string{"1-0", "---"}, Off: true}, {Name: "c2", Op: api.OpCover, Ins: []string{"a", "p"}, Off: true},
			{Name: "c3", Op: api.OpCover, Rows: []string{""}, Off: true}, gate(api.OpCover, "c4", "a"),
		},
	}
	want := `.model top
.inputs a x__2e62 x__785f5f
.outputs y x__785f5f
.latch a p 0
.latch p q 1
.latch x__23 x__23 3
.names y
.names n
1
.names x__23 o
1 1
.names a r
0 1
.names a x__2e62 x__785f5f s
111 1
.names a x__2e62 x__785f5f t
111 0
.names a x__2e62 x__785f5f u
000 0
.names a x__2e62 x__785f5f v
000 1
.names a x__2e62 x__785f5f w
001 1
010 1
100 1
111 1
.names a a x
00 1
11 1
.names a x__2e62 x__785f5f c1
1-0 0
--- 0
.names a p c2
-- 1
.names c3
0
.names a c4
.end
`
	if s, e := blif.Print(c); s != want || e != api.OK {
		t.Errorf("%s %v", s, e)
	}
	if s, e := blif.Print(api.Circuit{}); s != ".model top\n.inputs\n.outputs\n.end\n" || e != api.OK {
		t.Error(s, e)
	}
	for _, c := range []api.Circuit{{Outputs: []string{"z"}}, {Gates: []api.Gate{gate(api.OpNot, "z", "z")}}, {Inputs: make([]string, 201)}} {
		if s, e := blif.Print(c); s != "" || e != api.ErrArg {
			t.Error(s, e)
		}
	}
}

// plainly is a netlist, gate by gate as Plain has it.
func plainly(c api.Circuit) api.Circuit {
	c.Gates = slices.Clone(c.Gates)
	for i, g := range c.Gates {
		c.Gates[i] = blif.Plain(g)
	}
	return c
}

func TestWhatIsPrintedIsParsedAgain(t *testing.T) {
	r := rand.New(rand.NewSource(8))
	size := sample.Size{Inputs: [2]int{1, 4}, Latches: [2]int{0, 3}, Gates: [2]int{0, 9}, Outputs: [2]int{0, 9}, Width: [2]int{2, 8}}
	for range 500 {
		c := sample.Circuit(r.Intn, size, "a", ".", "#", "x__", "\\", "INPUT(")
		if e, name := order.Check(c); e != api.OK {
			t.Fatal(e, name)
		}
		s, e := blif.Print(c)
		back, f := blif.Parse(s)
		if e != api.OK || f != (api.Fail{}) || !net.Same(back, plainly(c)) {
			t.Fatal(c, s, back, f)
		}
		if again, _ := blif.Print(back); again != s {
			t.Fatal(s, again)
		}
	}
}

func FuzzParse(f *testing.F) {
	f.Add(".model x\n.inputs a b\n.outputs z\n.latch a q 3\n.names a b z\n11 1\n-0 1\n.end")
	f.Fuzz(func(t *testing.T, s string) {
		c, fail := blif.Parse(s)
		if fail.Err != api.OK {
			if !net.Same(c, api.Circuit{}) {
				t.Error(c, fail)
			}
			return
		}
		printed, e := blif.Print(c)
		back, _ := blif.Parse(printed)
		if e != api.OK || !net.Same(back, plainly(c)) {
			t.Error(printed)
		}
	})
}
