package verilog_test

import (
	"math/rand"
	"slices"
	"strconv"
	"strings"
	"testing"

	"patchbay/api"
	"patchbay/bench"
	"patchbay/net"
	"patchbay/sample"
	"patchbay/spot"
	"patchbay/verilog"
)

func gate(op api.Op, name string, ins ...string) api.Gate {
	return api.Gate{Name: name, Op: op, Ins: ins}
}

func TestParse(t *testing.T) {
	for s, want := range map[string]api.Circuit{
		"module m(); endmodule":                                   {},
		"module m(a); input a; output a; wire b, c; endmodule //": {Inputs: []string{"a"}, Outputs: []string{"a"}},
		"/* x */ module \\and (z,\\1 ,a);input a,\\1 ;output z;and g(z, a, \\1 );endmodule\n": {
			Inputs: []string{"a", "1"}, Outputs: []string{"z"}, Gates: []api.Gate{gate(api.OpAnd, "z", "a", "1")},
		},
		"module m(a); input a; buf(b,a); not(c,a); and(d,a,a); nand x1 (e,a,a); or(f,a,a); nor \\or (g,a,a); xor(h,a,a,a); xnor(i,a,a,a,a,a,a,a,a); and(j,a); xnor(k,a); endmodule": {
			Inputs: []string{"a"}, Gates: []api.Gate{
				gate(api.OpBuf, "b", "a"), gate(api.OpNot, "c", "a"), gate(api.OpAnd, "d", "a", "a"), gate(api.OpNand, "e", "a", "a"), gate(api.OpOr, "f", "a", "a"),
				gate(api.OpNor, "g", "a", "a"), gate(api.OpXor, "h", "a", "a", "a"), gate(api.OpXnor, "i", "a", "a", "a", "a", "a", "a", "a", "a"),
				gate(api.OpBuf, "j", "a"), gate(api.OpNot, "k", "a"),
			},
		},
		"module m(q); dff0 (q, r); dff1 x (r, s); dffx(s, q); output q; endmodule": {
			Outputs: []string{"q"}, Latches: []api.Latch{{Name: "q", Next: "r"}, {Name: "r", Next: "s", Init: 1}, {Name: "s", Next: "q", Init: 2}},
		},
	} {
		c, f := verilog.Parse(s)
		if !net.Same(c, want) || f != (api.Fail{}) {
			t.Errorf("%q: %v %v", s, c, f)
		}
	}
}

func TestExpressions(t *testing.T) {
	for s, want := range map[string][]api.Gate{
		"assign z = a;":             {gate(api.OpBuf, "z", "a")},
		"assign z = ((\\a ));":      {gate(api.OpBuf, "z", "a")},
		"assign z = ~a;":            {gate(api.OpNot, "z", "a")},
		"assign z = ~~(~(a));":      {gate(api.OpNot, "n1", "a"), gate(api.OpNot, "n2", "n1"), gate(api.OpNot, "z", "n2")},
		"assign z = 1'b0;":          {gate(api.OpZero, "z")},
		"assign z = (1'b1);":        {gate(api.OpOne, "z")},
		"assign z = a & b;":         {gate(api.OpAnd, "z", "a", "b")},
		"assign z = a | b | a | b;": {gate(api.OpOr, "n1", "a", "b"), gate(api.OpOr, "n2", "n1", "a"), gate(api.OpOr, "z", "n2", "b")},
		"assign z = a | (b | a);":   {gate(api.OpOr, "n1", "b", "a"), gate(api.OpOr, "z", "a", "n1")},
		"assign z = a|b^a&b;":       {gate(api.OpAnd, "n1", "a", "b"), gate(api.OpXor, "n2", "b", "n1"), gate(api.OpOr, "z", "a", "n2")},
		"assign z = a&b^a|b;":       {gate(api.OpAnd, "n1", "a", "b"), gate(api.OpXor, "n2", "n1", "a"), gate(api.OpOr, "z", "n2", "b")},
		"assign z = ~a&b;":          {gate(api.OpNot, "n1", "a"), gate(api.OpAnd, "z", "n1", "b")},
		"assign z = ~(a&b);":        {gate(api.OpAnd, "n1", "a", "b"), gate(api.OpNot, "z", "n1")},
		"assign z = ~a&~b&~a;": {
			gate(api.OpNot, "n1", "a"), gate(api.OpNot, "n2", "b"), gate(api.OpAnd, "n3", "n1", "n2"), gate(api.OpNot, "n4", "a"), gate(api.OpAnd, "z", "n3", "n4"),
		},
		"assign z = a&b|a&1'b1;": {gate(api.OpAnd, "n1", "a", "b"), gate(api.OpOne, "n2"), gate(api.OpAnd, "n3", "a", "n2"), gate(api.OpOr, "z", "n1", "n3")},
		"assign z = ~a; assign n2 = ~~b; assign y = ~(a ^ n2);": {
			gate(api.OpNot, "z", "a"), gate(api.OpNot, "n1", "b"), gate(api.OpNot, "n2", "n1"), gate(api.OpXor, "n3", "a", "n2"), gate(api.OpNot, "y", "n3"),
		},
		"wire n1; assign z = ~~a; assign \\n3 = a & ~b; assign y = ~~b;": {
			gate(api.OpNot, "n2", "a"), gate(api.OpNot, "z", "n2"), gate(api.OpNot, "n4", "b"), gate(api.OpAnd, "n3", "a", "n4"), gate(api.OpNot, "n5", "b"), gate(api.OpNot, "y", "n5"),
		},
	} {
		c, f := verilog.Parse("module m(a,b);input a,b;" + s + "endmodule")
		if !net.Same(c, api.Circuit{Inputs: []string{"a", "b"}, Gates: want}) || f != (api.Fail{}) {
			t.Errorf("%q: %v %v", s, c.Gates, f)
		}
	}
}

// A mark @ stands where what is wrong stands.
func TestParseWrong(t *testing.T) {
	long := strings.Repeat("a", 41)
	tildes := strings.Repeat("~", 201)
	for marked, e := range map[string]api.Errno{
		"module m(;@#":                                                 api.ErrSyntax,
		"module m(a) @/* x":                                            api.ErrSyntax,
		"@":                                                            api.ErrSyntax,
		"@modul m();":                                                  api.ErrSyntax,
		"@\\module m();endmodule":                                      api.ErrSyntax,
		"@;":                                                           api.ErrSyntax,
		"module@":                                                      api.ErrSyntax,
		"module @(":                                                    api.ErrSyntax,
		"module @module (":                                             api.ErrName,
		"module @1'b0 (":                                               api.ErrName,
		"module @" + long + "()":                                       api.ErrName,
		"module @\\" + long + " ()":                                    api.ErrName,
		"module m @a":                                                  api.ErrSyntax,
		"module m@;":                                                   api.ErrSyntax,
		"module m(@,a);":                                               api.ErrSyntax,
		"module m(@and);":                                              api.ErrName,
		"module m(a,@);":                                               api.ErrSyntax,
		"module m(a @b);":                                              api.ErrSyntax,
		"module m(a@":                                                  api.ErrSyntax,
		"module m()@":                                                  api.ErrSyntax,
		"module m() @endmodule":                                        api.ErrSyntax,
		"module m();@":                                                 api.ErrSyntax,
		"module m(); @a b;":                                            api.ErrSyntax,
		"module m(); @module x;":                                       api.ErrSyntax,
		"module m(); @\\input a; endmodule":                            api.ErrSyntax,
		"module m(); @\\endmodule ":                                    api.ErrSyntax,
		"module m(); @; endmodule":                                     api.ErrSyntax,
		"module m(); endmodule @;":                                     api.ErrSyntax,
		"module m(); endmodule @endmodule":                             api.ErrSyntax,
		"module m(); input @; endmodule":                               api.ErrSyntax,
		"module m(); input a @b; endmodule":                            api.ErrSyntax,
		"module m(); output a, @; endmodule":                           api.ErrSyntax,
		"module m(); wire @wire; endmodule":                            api.ErrName,
		"module m(); wire a@":                                          api.ErrSyntax,
		"module m(); assign @= a; endmodule":                           api.ErrSyntax,
		"module m(); assign z @a; endmodule":                           api.ErrSyntax,
		"module m(); assign z = @; endmodule":                          api.ErrSyntax,
		"module m(); assign z = a@":                                    api.ErrSyntax,
		"module m(); assign z = a & @| b; endmodule":                   api.ErrSyntax,
		"module m(); assign z = a @b; endmodule":                       api.ErrSyntax,
		"module m(); assign z = a @~ b; endmodule":                     api.ErrSyntax,
		"module m(); assign z = (a@; endmodule":                        api.ErrSyntax,
		"module m(); assign z = (a | b@":                               api.ErrSyntax,
		"module m(); assign z = a@) ; endmodule":                       api.ErrSyntax,
		"module m(); assign z = ~@; endmodule":                         api.ErrSyntax,
		"module m(); assign z = @1'b2; endmodule":                      api.ErrName,
		"module m(); assign z = @and; endmodule":                       api.ErrName,
		"module m(); assign @1'b0 = a; endmodule":                      api.ErrName,
		"module m(); and @; endmodule":                                 api.ErrSyntax,
		"module m(); and @and (a, b); endmodule":                       api.ErrName,
		"module m(); and g @h (a, b); endmodule":                       api.ErrSyntax,
		"module m(); and (@); endmodule":                               api.ErrSyntax,
		"module m(); and (a @b); endmodule":                            api.ErrSyntax,
		"module m(); and (a, @1'b0); endmodule":                        api.ErrName,
		"module m(); and (a, b)@":                                      api.ErrSyntax,
		"module m(); @dff0 (a); endmodule":                             api.ErrArg,
		"module m(); @dffx x (a, b, c); endmodule":                     api.ErrArg,
		"module m(); dff1 (a, b, c) @endmodule":                        api.ErrSyntax,
		"@module m(a); endmodule":                                      api.ErrArg,
		"@module m(); input a; endmodule":                              api.ErrArg,
		"@module m(); output a; buf (a); endmodule":                    api.ErrArg,
		"@module m(a, a); input a; output a;endmodule":                 api.ErrArg,
		"@module m(a,b); input a, c; endmodule":                        api.ErrArg,
		"module m(@a); input a, a; endmodule":                          api.ErrTwice,
		"module m(a,@z); input a; output z, z; not (z, a); endmodule":  api.ErrTwice,
		"module m(@z); output z; endmodule":                            api.ErrNone,
		"module m(); buf (a, @b); endmodule":                           api.ErrNone,
		"module m(); buf (@b); endmodule":                              api.ErrArg,
		"module @b(); buf (b); endmodule":                              api.ErrArg,
		"module m(a); input a; not (@b, a, a); endmodule":              api.ErrArg,
		"module m(); not (@b, c); not (c, b); endmodule":               api.ErrLoop,
		"@module m(); assign z = ~(~z); endmodule":                     api.ErrLoop,
		"@module m(a); input a; and (z,a,a,a,a,a,a,a,a,a); endmodule":  api.ErrLimit,
		"@module m(a); input a; assign z = " + tildes + "a; endmodule": api.ErrLimit,
	} {
		at := strings.IndexByte(marked, '@')
		s := marked[:at] + marked[at+1:]
		if c, f := verilog.Parse(s); !net.Same(c, api.Circuit{}) || f != spot.Fail(s, at, e) {
			t.Errorf("%q: %v, want %v", s, f, spot.Fail(s, at, e))
		}
	}
}

func TestManyGates(t *testing.T) {
	c, f := verilog.Parse("module m(a); input a; assign z = " + strings.Repeat("~", 199) + "a; endmodule")
	if len(c.Gates) != 199 || c.Gates[198].Name != "z" || f != (api.Fail{}) {
		t.Error(len(c.Gates), f)
	}
	c, f = verilog.Parse("module m(); assign z = " + strings.Repeat("(", 5000) + "1'b1" + strings.Repeat(")", 5000) + "; endmodule")
	if len(c.Gates) != 1 || f != (api.Fail{}) {
		t.Error(c, f)
	}
	if _, f = verilog.Parse("module m(a); input a; assign z = " + strings.Repeat("~", 20000) + "a endmodule"); f.Err != api.ErrSyntax {
		t.Error(f)
	}
}

func TestNames(t *testing.T) {
	for s, want := range map[string][]string{
		"":                            nil,
		"module m(a, \\b& ); a #":     nil,
		"module m(a, \\and ); a 1'b0": {"m", "a", "and", "a"},
		"x$ 1 _ \\1'b0 " + strings.Repeat("a", 41) + " dff0 dff": {"x$", "_", "1'b0", "dff"},
	} {
		if l := verilog.Names(s); !slices.Equal(l, want) {
			t.Errorf("%q: %q", s, l)
		}
	}
}

func TestPrint(t *testing.T) {
	c := api.Circuit{
		Inputs: []string{"a", "b(0)"}, Outputs: []string{"z", "a", "q"},
		Latches: []api.Latch{{Name: "p", Next: "a"}, {Name: "q", Next: "p", Init: 1}, {Name: "not", Next: "q", Init: 2}},
		Gates: []api.Gate{
			gate(api.OpZero, "c"), gate(api.OpOne, "1"), gate(api.OpBuf, "e", "a"), gate(api.OpNot, "f", "not"), gate(api.OpAnd, "g", "a", "b(0)"), gate(api.OpNand, "h", "a", "1"),
			gate(api.OpOr, "i", "a", "a", "b(0)"), gate(api.OpNor, "j", "a", "c"), gate(api.OpXor, "k", "a", "c"), gate(api.OpXnor, "l", "a", "c"),
			{Name: "z", Op: api.OpCover, Ins: []string{"a", "c"}, Rows: []string{"10"}},
		},
	}
	want := `module top(a, \b(0) , z, q);
  input a;
  input \b(0) ;
  output z;
  output a;
  output q;
  wire p;
  wire \not ;
  wire c;
  wire \1 ;
  wire e;
  wire f;
  wire g;
  wire h;
  wire i;
  wire j;
  wire k;
  wire l;
  wire n1;
  dff0 (p, a);
  dff1 (q, p);
  dffx (\not , q);
  assign c = 1'b0;
  assign \1  = 1'b1;
  buf (e, a);
  not (f, \not );
  and (g, a, \b(0) );
  nand (h, a, \1 );
  or (i, a, a, \b(0) );
  nor (j, a, c);
  xor (k, a, c);
  xnor (l, a, c);
  not (n1, c);
  and (z, a, n1);
endmodule
`
	if s, e := verilog.Print(c); s != want || e != api.OK {
		t.Errorf("%s %v", s, e)
	}
	if s, e := verilog.Print(api.Circuit{}); s != "module top();\nendmodule\n" || e != api.OK {
		t.Error(s, e)
	}
	if s, e := verilog.Print(api.Circuit{Outputs: []string{"z"}}); s != "" || e != api.ErrArg {
		t.Error(s, e)
	}
	full := api.Circuit{Gates: []api.Gate{{Name: "z", Op: api.OpCover, Ins: []string{"i1", "i2"}, Rows: []string{"10"}}}}
	for i := range 199 {
		full.Inputs = append(full.Inputs, "i"+strconv.Itoa(i))
	}
	if s, e := verilog.Print(full); s != "" || e != api.ErrLimit {
		t.Error(s, e)
	}
}

func TestWhatIsPrintedIsParsedAgain(t *testing.T) {
	r := rand.New(rand.NewSource(10))
	size := sample.Size{Inputs: [2]int{1, 3}, Latches: [2]int{0, 2}, Gates: [2]int{0, 9}, Outputs: [2]int{0, 9}, Width: [2]int{2, 8}}
	for range 500 {
		c := sample.Circuit(r.Intn, size, "a", "n", "x__", "(", "\\", ";", "1'b")
		x, _ := bench.Expand(c)
		s, e := verilog.Print(c)
		back, f := verilog.Parse(s)
		if e != api.OK || f != (api.Fail{}) || !net.Same(back, x) {
			t.Fatal(c, s, back, f)
		}
		if again, _ := verilog.Print(back); again != s {
			t.Fatal(s, again)
		}
	}
}

func FuzzParse(f *testing.F) {
	f.Add("module m(a,z);input a;output z;dffx(q,a);assign z=~(a^q)&1'b1|\\n1 ;not(\\n1 ,a);endmodule")
	f.Fuzz(func(t *testing.T, s string) {
		c, fail := verilog.Parse(s)
		if fail.Err != api.OK {
			if !net.Same(c, api.Circuit{}) {
				t.Error(c, fail)
			}
			return
		}
		printed, e := verilog.Print(c)
		if back, _ := verilog.Parse(printed); e != api.OK || !net.Same(back, c) {
			t.Error(printed)
		}
	})
}
