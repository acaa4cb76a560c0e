package hub

import (
	"strconv"

	"patchbay/api"
	"patchbay/cross"
	"patchbay/inv"
	"patchbay/table"
	"patchbay/trans"
	"patchbay/witness"
)

// resSome is the result with which a verdict, or an answer, tells a state.
const resSome = 1

// doer does one act.
type doer struct{ a Act }

func (d doer) do() (Told, error) {
	kinds := [...]func() (Told, error){d.translate, d.witnessOf, d.invariantOf, d.crossCheck, d.replay, d.check}
	if d.a.Kind < 0 || d.a.Kind >= len(kinds) {
		return Told{}, number(api.ErrForm)
	}
	if len(d.a.Text) > d.a.L.Bytes || len(d.a.More) > d.a.L.Bytes {
		return Told{}, number(api.ErrLimit)
	}
	return kinds[d.a.Kind]()
}

// model is the model of a text.
func (d doer) model(in int, f api.Format, s string) (api.Model, error) {
	m, fail := trans.Denote(f, s)
	if fail.Err != api.OK {
		return api.Model{}, failIn(in, fail)
	}
	if m.Graph.Ins+len(m.Graph.Next)+len(m.Graph.Ands) > d.a.L.Nets {
		return api.Model{}, failIn(in, api.Fail{Err: api.ErrLimit})
	}
	return m, nil
}

// both are the model of Text, and that of its translation.
func (d doer) both() (api.Model, api.Model, error) {
	was, err := d.model(inText, d.a.From, d.a.Text)
	if err != nil {
		return api.Model{}, api.Model{}, err
	}
	t, err := d.translate()
	if err != nil {
		return api.Model{}, api.Model{}, err
	}
	is, err := d.model(inTranslation, d.a.To, t.Text)
	return was, is, err
}

func (d doer) translate() (Told, error) {
	s, fail := trans.Translate(d.a.Text, d.a.From, d.a.To, d.a.L, d.a.Graph)
	return Told{Text: s}, failIn(inText, fail)
}

func (d doer) witnessOf() (Told, error) {
	was, is, err := d.both()
	if err != nil {
		return Told{}, err
	}
	w, fail := witness.Parse(d.a.More)
	if fail.Err != api.OK {
		return Told{}, failIn(inMore, fail)
	}
	w, e := witness.Rename(is, was, w)
	if e != api.OK {
		return Told{}, number(e)
	}
	t, err := replayed(was, w)
	if err != nil {
		return Told{}, err
	}
	t.Text, e = witness.Print(w)
	return t, number(e)
}

func (d doer) invariantOf() (Told, error) {
	was, is, err := d.both()
	if err != nil {
		return Told{}, err
	}
	l, fail := inv.Parse(d.a.More)
	if fail.Err != api.OK {
		return Told{}, failIn(inMore, fail)
	}
	names, e := table.Of(is.Latches, was.Latches)
	if e != api.OK {
		return Told{}, number(e)
	}
	l, e = inv.Rename(l, names)
	if e != api.OK {
		return Told{}, number(e)
	}
	v, e := inv.Check(was, l, d.a.K, d.a.N)
	if e != api.OK {
		return Told{}, number(e)
	}
	s, e := inv.Print(l)
	return Told{Text: s, Res: v.Res}, number(e)
}

func (d doer) crossCheck() (Told, error) {
	first, err := d.model(inText, d.a.From, d.a.Text)
	if err != nil {
		return Told{}, err
	}
	second, err := d.model(inMore, d.a.To, d.a.More)
	if err != nil {
		return Told{}, err
	}
	x, e := cross.Cross(first, second, d.a.K, d.a.N)
	if e != api.OK || x.Res != resSome {
		return Told{Res: x.Res}, number(e)
	}
	w := witness.Witness{Bad: x.Out, State: values(x.A)}
	for _, row := range x.Seq {
		w.Steps = append(w.Steps, values(row))
	}
	s, e := witness.Print(w)
	return Told{Text: s, Res: x.Res}, number(e)
}

func (d doer) replay() (Told, error) {
	m, err := d.model(inText, d.a.From, d.a.Text)
	if err != nil {
		return Told{}, err
	}
	w, fail := witness.Parse(d.a.More)
	if fail.Err != api.OK {
		return Told{}, failIn(inMore, fail)
	}
	return replayed(m, w)
}

func (d doer) check() (Told, error) {
	m, err := d.model(inText, d.a.From, d.a.Text)
	if err != nil {
		return Told{}, err
	}
	l, fail := inv.Parse(d.a.More)
	if fail.Err != api.OK {
		return Told{}, failIn(inMore, fail)
	}
	v, e := inv.Check(m, l, d.a.K, d.a.N)
	if e != api.OK || v.Res != resSome {
		return Told{Res: v.Res}, number(e)
	}
	return Told{Text: showVerdict(v), Res: v.Res}, nil
}

// replayed tells 1, if a witness comes true.
func replayed(m api.Model, w witness.Witness) (Told, error) {
	isTrue, e := witness.Replay(m, w)
	if e != api.OK || !isTrue {
		return Told{}, number(e)
	}
	return Told{Res: 1}, nil
}

// showVerdict is the line of a verdict with a state.
func showVerdict(v inv.Verdict) string {
	s := strconv.Itoa(v.Part) + " " + strconv.Itoa(v.Clause) + " "
	for _, n := range values(v.State) {
		s += strconv.Itoa(n)
	}
	return s + "\n"
}

// values are values as a witness has them.
func values(l []bool) []int {
	var all []int
	for _, v := range l {
		n := 0
		if v {
			n = 1
		}
		all = append(all, n)
	}
	return all
}
