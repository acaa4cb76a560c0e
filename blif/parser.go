package blif

import (
	"iter"
	"strings"

	"patchbay/api"
	"patchbay/ident"
	"patchbay/net"
	"patchbay/order"
	"patchbay/spot"
	"patchbay/token"
)

// lineKind is the kind of the tokens that end lines.
const lineKind = 3

// parser reads a text line by line; it gives up by a panic with what is wrong, and where.
type parser struct {
	s      string
	tokens []token.Token
	c      api.Circuit
	// begun and ended tell whether the first line, and the last one, were there.
	begun, ended bool
	// inCover tells whether rows of the last gate may come.
	inCover bool
}

// items is by what each line is read.
func items() map[string]func(p *parser, line []token.Token) {
	return map[string]func(p *parser, line []token.Token){
		".model": (*parser).model, ".inputs": (*parser).inputs, ".outputs": (*parser).outputs,
		".latch": (*parser).latch, ".names": (*parser).names, ".end": (*parser).end,
	}
}

func (p *parser) fail(at int, e api.Errno) { panic(spot.Fail(p.s, at, e)) }

func (p *parser) parse() api.Circuit {
	read := items()
	for line := range lines(p.tokens) {
		first := line[0]
		if p.ended || p.begun != (first.Text != ".model") {
			p.fail(first.At, api.ErrSyntax)
		}
		if !strings.HasPrefix(first.Text, ".") {
			p.row(line)
			continue
		}
		item, ok := read[first.Text]
		if !ok {
			p.fail(first.At, api.ErrForm)
		}
		p.inCover = false
		item(p, line)
	}
	if !p.ended {
		p.fail(len(p.s), api.ErrSyntax)
	}
	if e, name := order.Check(p.c); e != api.OK {
		p.fail(ident.Find(api.FmtBlif, p.tokens, name), e)
	}
	for i, g := range p.c.Gates {
		p.c.Gates[i] = net.Canon(g)
	}
	return p.c
}

// need gives up at a line's first word, if the line is not so.
func (p *parser) need(line []token.Token, so bool) {
	if !so {
		p.fail(line[0].At, api.ErrSyntax)
	}
}

func (p *parser) model(line []token.Token) {
	p.need(line, len(line) <= 2)
	p.begun = true
}

func (p *parser) end(line []token.Token) {
	p.need(line, len(line) == 1)
	p.ended = true
}

func (p *parser) inputs(line []token.Token) {
	p.c.Inputs = append(p.c.Inputs, p.namesOf(line[1:])...)
}

func (p *parser) outputs(line []token.Token) {
	p.c.Outputs = append(p.c.Outputs, p.namesOf(line[1:])...)
}

func (p *parser) latch(line []token.Token) {
	p.need(line, len(line) == 3 || len(line) == 4)
	l := api.Latch{Next: p.name(line[1]), Name: p.name(line[2]), Init: 2}
	if len(line) == 4 {
		l.Init = p.begin(line[3])
	}
	p.c.Latches = append(p.c.Latches, l)
}

// begin is how a latch begins: 2 and 3 are either.
func (p *parser) begin(t token.Token) int {
	switch t.Text {
	case "0":
		return 0
	case "1":
		return 1
	case "2", "3":
		return 2
	}
	p.fail(t.At, api.ErrArg)
	return 0
}

func (p *parser) names(line []token.Token) {
	p.need(line, len(line) >= 2)
	names := p.namesOf(line[1:])
	last := len(names) - 1
	p.c.Gates = append(p.c.Gates, api.Gate{Name: names[last], Op: api.OpCover, Ins: names[:last:last]})
	p.inCover = true
}

func (p *parser) row(line []token.Token) {
	p.need(line, p.inCover)
	g := &p.c.Gates[len(p.c.Gates)-1]
	row, sign := "", line[len(line)-1].Text
	if len(g.Ins) == 0 {
		p.need(line, len(line) == 1)
	} else {
		row = line[0].Text
		p.need(line, len(line) == 2 && len(row) == len(g.Ins) && strings.Trim(row, "01-") == "")
	}
	p.need(line, sign == "0" || sign == "1")
	p.need(line, len(g.Rows) == 0 || g.Off == (sign == "0"))
	g.Rows = append(g.Rows, row)
	g.Off = sign == "0"
}

func (p *parser) namesOf(line []token.Token) []string {
	var all []string
	for _, t := range line {
		all = append(all, p.name(t))
	}
	return all
}

func (p *parser) name(t token.Token) string {
	s, e := ident.Word(api.FmtBlif, t)
	if e != api.OK {
		p.fail(t.At, e)
	}
	return s
}

// lines tells the words of each line.
func lines(l []token.Token) iter.Seq[[]token.Token] {
	return func(yield func([]token.Token) bool) {
		from := 0
		for i, t := range l {
			if t.Kind == lineKind {
				if !yield(l[from:i]) {
					return
				}
				from = i + 1
			}
		}
	}
}
