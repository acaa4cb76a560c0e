package table_test

import (
	"slices"
	"strconv"
	"strings"
	"testing"

	"patchbay/api"
	"patchbay/table"
)

func many(stem string, n int) []string {
	var l []string
	for i := range n {
		l = append(l, stem+strconv.Itoa(i))
	}
	return l
}

var wrong = []struct {
	t table.Table
	e api.Errno
}{
	{table.Table{many("a", 201), many("b", 201)}, api.ErrLimit},
	{table.Table{many("a", 201), nil}, api.ErrLimit},
	{table.Table{nil, many("a", 201)}, api.ErrLimit},
	{table.Table{make([]string, 201), nil}, api.ErrLimit},
	{table.Table{[]string{"a"}, nil}, api.ErrArg},
	{table.Table{[]string{"", ""}, []string{"b"}}, api.ErrArg},
	{table.Table{[]string{""}, []string{"b"}}, api.ErrName},
	{table.Table{[]string{"b"}, []string{"a b"}}, api.ErrName},
	{table.Table{[]string{"a", "a", strings.Repeat("a", 41)}, []string{"b", "c", "d"}}, api.ErrName},
	{table.Table{[]string{"a", "b", "a"}, []string{"x", "y", "z"}}, api.ErrTwice},
	{table.Table{[]string{"a", "b"}, []string{"x", "x"}}, api.ErrTwice},
}

var good = []table.Table{
	{},
	{[]string{"a", "b"}, []string{"x", "y"}},
	{[]string{"a", "b"}, []string{"b", "a"}},
	{[]string{"q"}, []string{"q"}},
	{many("a", 200), many("b", 200)},
}

func TestCheck(t *testing.T) {
	for _, x := range wrong {
		if e := table.Check(x.t); e != x.e {
			t.Error(x.t, e)
		}
		if u, e := table.Of(x.t.From, x.t.To); e != x.e || u.From != nil || u.To != nil {
			t.Error(x.t, u, e)
		}
	}
	for _, x := range good {
		if e := table.Check(x); e != api.OK {
			t.Error(x, e)
		}
	}
}

func TestOfSharesNothing(t *testing.T) {
	from, to := []string{"a", "b"}, []string{"x", "y"}
	u, e := table.Of(from, to)
	from[0], to[0] = "c", "c"
	if e != api.OK || !table.Same(u, good[1]) {
		t.Error(u, e)
	}
}

func TestAheadAndBack(t *testing.T) {
	for _, x := range good {
		for i, s := range x.From {
			to, ok := table.Ahead(x, s)
			if to != x.To[i] || !ok {
				t.Error(s, to, ok)
			}
			if from, ok := table.Back(x, to); from != s || !ok {
				t.Error(to, from, ok)
			}
		}
		if s, ok := table.Ahead(x, "none"); s != "" || ok {
			t.Error(s, ok)
		}
		if s, ok := table.Back(x, "none"); s != "" || ok {
			t.Error(s, ok)
		}
	}
	if s, ok := table.Ahead(good[1], "x"); s != "" || ok {
		t.Error("a name of To is found in From", s)
	}
	if s, ok := table.Back(good[1], "a"); s != "" || ok {
		t.Error("a name of From is found in To", s)
	}
}

func TestOfOthersNothing(t *testing.T) {
	for _, x := range wrong {
		for _, s := range []string{"", "a", "b", "x", "a0"} {
			if to, ok := table.Ahead(x.t, s); to != "" || ok {
				t.Error(x.t, to)
			}
			if from, ok := table.Back(x.t, s); from != "" || ok {
				t.Error(x.t, from)
			}
		}
		for _, u := range []table.Table{table.Inverse(x.t), table.Join(x.t, good[1]), table.Join(good[1], x.t)} {
			if len(u.From) != 0 || len(u.To) != 0 {
				t.Error(x.t, u)
			}
		}
		if l, e := table.Map(x.t, []string{"none"}); e != x.e || l != nil {
			t.Error(x.t, l, e)
		}
	}
}

func TestInverse(t *testing.T) {
	for _, x := range good {
		u := table.Inverse(x)
		if !table.Same(u, table.Table{x.To, x.From}) {
			t.Error(x, u)
		}
		if len(u.From) > 0 {
			u.From[0] = "changed"
		}
		if !table.Same(table.Inverse(table.Inverse(x)), x) {
			t.Error(x)
		}
	}
}

func TestJoin(t *testing.T) {
	u := table.Table{[]string{"a", "b", "c"}, []string{"x", "y", "z"}}
	v := table.Table{[]string{"z", "w", "x"}, []string{"1", "2", "3"}}
	if j := table.Join(u, v); !table.Same(j, table.Table{[]string{"a", "c"}, []string{"3", "1"}}) {
		t.Error(j)
	}
	if j := table.Join(u, table.Table{}); !table.Same(j, table.Table{}) {
		t.Error(j)
	}
	if j := table.Join(u, table.Inverse(u)); !table.Same(j, table.Table{u.From, u.From}) {
		t.Error(j)
	}
}

func TestMap(t *testing.T) {
	u := good[1]
	if l, e := table.Map(u, []string{"b", "a", "b"}); !slices.Equal(l, []string{"y", "x", "y"}) || e != api.OK {
		t.Error(l, e)
	}
	if l, e := table.Map(u, nil); len(l) != 0 || e != api.OK {
		t.Error(l, e)
	}
	for _, l := range [][]string{{"x"}, {"a", "c"}, {""}} {
		if l, e := table.Map(u, l); l != nil || e != api.ErrUnknown {
			t.Error(l, e)
		}
	}
}

func TestSame(t *testing.T) {
	a := good[1]
	if !table.Same(a, table.Table{slices.Clone(a.From), slices.Clone(a.To)}) || !table.Same(table.Table{}, table.Table{[]string{}, []string{}}) {
		t.Error("alike, and told not to be")
	}
	for _, b := range []table.Table{{}, good[2], table.Inverse(a), {a.From, nil}, {a.From[:1], a.To[:1]}, {[]string{"b", "a"}, []string{"y", "x"}}} {
		if table.Same(a, b) || table.Same(b, a) {
			t.Error(b)
		}
	}
}
