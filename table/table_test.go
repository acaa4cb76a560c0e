package table

import (
	"slices"
	"strconv"
	"strings"
	"testing"

	"patchbay/api"
)

func many(stem string, n int) []string {
	var l []string
	for i := range n {
		l = append(l, stem+strconv.Itoa(i))
	}
	return l
}

var wrong = []struct {
	t Table
	e api.Errno
}{
	{Table{many("a", 201), many("b", 201)}, api.ErrLimit},
	{Table{many("a", 201), nil}, api.ErrLimit},
	{Table{nil, many("a", 201)}, api.ErrLimit},
	{Table{make([]string, 201), nil}, api.ErrLimit},
	{Table{[]string{"a"}, nil}, api.ErrArg},
	{Table{[]string{"", ""}, []string{"b"}}, api.ErrArg},
	{Table{[]string{""}, []string{"b"}}, api.ErrName},
	{Table{[]string{"b"}, []string{"a b"}}, api.ErrName},
	{Table{[]string{"a", "a", strings.Repeat("a", 41)}, []string{"b", "c", "d"}}, api.ErrName},
	{Table{[]string{"a", "b", "a"}, []string{"x", "y", "z"}}, api.ErrTwice},
	{Table{[]string{"a", "b"}, []string{"x", "x"}}, api.ErrTwice},
}

var good = []Table{
	{},
	{[]string{"a", "b"}, []string{"x", "y"}},
	{[]string{"a", "b"}, []string{"b", "a"}},
	{[]string{"q"}, []string{"q"}},
	{many("a", 200), many("b", 200)},
}

func TestCheck(t *testing.T) {
	for _, x := range wrong {
		if e := Check(x.t); e != x.e {
			t.Error(x.t, e)
		}
		if u, e := Of(x.t.From, x.t.To); e != x.e || u.From != nil || u.To != nil {
			t.Error(x.t, u, e)
		}
	}
	for _, x := range good {
		if e := Check(x); e != api.OK {
			t.Error(x, e)
		}
	}
}

func TestOfSharesNothing(t *testing.T) {
	from, to := []string{"a", "b"}, []string{"x", "y"}
	u, e := Of(from, to)
	from[0], to[0] = "c", "c"
	if e != api.OK || !Same(u, good[1]) {
		t.Error(u, e)
	}
}

func TestAheadAndBack(t *testing.T) {
	for _, x := range good {
		for i, s := range x.From {
			to, ok := Ahead(x, s)
			if to != x.To[i] || !ok {
				t.Error(s, to, ok)
			}
			if from, ok := Back(x, to); from != s || !ok {
				t.Error(to, from, ok)
			}
		}
		if s, ok := Ahead(x, "none"); s != "" || ok {
			t.Error(s, ok)
		}
		if s, ok := Back(x, "none"); s != "" || ok {
			t.Error(s, ok)
		}
	}
	if s, ok := Ahead(good[1], "x"); s != "" || ok {
		t.Error("a name of To is found in From", s)
	}
	if s, ok := Back(good[1], "a"); s != "" || ok {
		t.Error("a name of From is found in To", s)
	}
}

func TestOfOthersNothing(t *testing.T) {
	for _, x := range wrong {
		for _, s := range []string{"", "a", "b", "x", "a0"} {
			if to, ok := Ahead(x.t, s); to != "" || ok {
				t.Error(x.t, to)
			}
			if from, ok := Back(x.t, s); from != "" || ok {
				t.Error(x.t, from)
			}
		}
		for _, u := range []Table{Inverse(x.t), Join(x.t, good[1]), Join(good[1], x.t)} {
			if len(u.From) != 0 || len(u.To) != 0 {
				t.Error(x.t, u)
			}
		}
		if l, e := Map(x.t, []string{"none"}); e != x.e || l != nil {
			t.Error(x.t, l, e)
		}
	}
}

func TestInverse(t *testing.T) {
	for _, x := range good {
		u := Inverse(x)
		if !Same(u, Table{x.To, x.From}) {
			t.Error(x, u)
		}
		if len(u.From) > 0 {
			u.From[0] = "changed"
		}
		if !Same(Inverse(Inverse(x)), x) {
			t.Error(x)
		}
	}
}

func TestJoin(t *testing.T) {
	u := Table{[]string{"a", "b", "c"}, []string{"x", "y", "z"}}
	v := Table{[]string{"z", "w", "x"}, []string{"1", "2", "3"}}
	if j := Join(u, v); !Same(j, Table{[]string{"a", "c"}, []string{"3", "1"}}) {
		t.Error(j)
	}
	if j := Join(u, Table{}); !Same(j, Table{}) {
		t.Error(j)
	}
	if j := Join(u, Inverse(u)); !Same(j, Table{u.From, u.From}) {
		t.Error(j)
	}
}

func TestMap(t *testing.T) {
	u := good[1]
	if l, e := Map(u, []string{"b", "a", "b"}); !slices.Equal(l, []string{"y", "x", "y"}) || e != api.OK {
		t.Error(l, e)
	}
	if l, e := Map(u, nil); len(l) != 0 || e != api.OK {
		t.Error(l, e)
	}
	for _, l := range [][]string{{"x"}, {"a", "c"}, {""}} {
		if l, e := Map(u, l); l != nil || e != api.ErrUnknown {
			t.Error(l, e)
		}
	}
}

func TestSame(t *testing.T) {
	a := good[1]
	if !Same(a, Table{slices.Clone(a.From), slices.Clone(a.To)}) || !Same(Table{}, Table{[]string{}, []string{}}) {
		t.Error("alike, and told not to be")
	}
	for _, b := range []Table{{}, good[2], Inverse(a), {a.From, nil}, {a.From[:1], a.To[:1]}, {[]string{"b", "a"}, []string{"y", "x"}}} {
		if Same(a, b) || Same(b, a) {
			t.Error(b)
		}
	}
}

func TestPairsCanBeLeft(t *testing.T) {
	for from := range pairs(good[1]) {
		if from != "a" {
			t.Error(from)
		}
		break
	}
}
