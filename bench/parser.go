package bench

import (
	"strings"

	"patchbay/api"
	"patchbay/ident"
	"patchbay/net"
	"patchbay/order"
	"patchbay/spot"
	"patchbay/token"
)

// The kinds of tokens.
const (
	wordKind = 0
	markKind = 1
)

// The words of ports.
const (
	inputWord  = "INPUT"
	outputWord = "OUTPUT"
)

// item is what a word behind a `=` tells: an op, or how a latch begins.
type item struct {
	isLatch bool
	op      api.Op
	begin   int
}

// parser reads a text token by token; it gives up by a panic with what is wrong, and where.
type parser struct {
	s      string
	tokens []token.Token
	// at is how many tokens were taken.
	at    int
	words map[string]item
	c     api.Circuit
}

// wordsRead is what the words tell.
func wordsRead() map[string]item {
	words := map[string]item{"BUF": {op: api.OpBuf}}
	for i, s := range gateWords() {
		words[s] = item{op: api.Op(i)}
	}
	for i, s := range latchWords() {
		words[s] = item{isLatch: true, begin: i}
	}
	return words
}

func (p *parser) fail(at int, e api.Errno) { panic(spot.Fail(p.s, at, e)) }

// take is what read makes of the next token; where that is an error, or there is no token, it gives up.
func take[T any](p *parser, read func(t token.Token) (T, api.Errno)) T {
	if p.at == len(p.tokens) {
		p.fail(len(p.s), api.ErrSyntax)
	}
	t := p.tokens[p.at]
	made, e := read(t)
	if e != api.OK {
		p.fail(t.At, e)
	}
	p.at++
	return made
}

func word(t token.Token) (token.Token, api.Errno) {
	if t.Kind != wordKind {
		return token.Token{}, api.ErrSyntax
	}
	return t, api.OK
}

func name(t token.Token) (string, api.Errno) {
	if t.Kind != wordKind {
		return "", api.ErrSyntax
	}
	return ident.Word(api.FmtBench, t)
}

// mark reads one of some marks.
func mark(some string) func(t token.Token) (string, api.Errno) {
	return func(t token.Token) (string, api.Errno) {
		if t.Kind != markKind || !strings.Contains(some, t.Text) {
			return "", api.ErrSyntax
		}
		return t.Text, api.OK
	}
}

// item reads a word behind a `=`.
func (p *parser) item(t token.Token) (item, api.Errno) {
	if t.Kind != wordKind {
		return item{}, api.ErrSyntax
	}
	i, ok := p.words[t.Text]
	if !ok {
		return item{}, api.ErrForm
	}
	return i, api.OK
}

func (p *parser) parse() api.Circuit {
	for p.at < len(p.tokens) {
		p.statement()
	}
	if e, s := order.Check(p.c); e != api.OK {
		p.fail(ident.Find(api.FmtBench, p.tokens, s), e)
	}
	return p.c
}

func (p *parser) statement() {
	first := take(p, word)
	isPort := first.Text == inputWord || first.Text == outputWord
	marks := "="
	if isPort {
		marks = "=("
	}
	if take(p, mark(marks)) == "=" {
		p.definition(first)
		return
	}
	s := take(p, name)
	take(p, mark(")"))
	if first.Text == inputWord {
		p.c.Inputs = append(p.c.Inputs, s)
	} else {
		p.c.Outputs = append(p.c.Outputs, s)
	}
}

// definition reads what stands behind a name and a `=`.
func (p *parser) definition(first token.Token) {
	own, e := name(first)
	if e != api.OK {
		p.fail(first.At, e)
	}
	i := take(p, p.item)
	at := p.tokens[p.at-1].At
	take(p, mark("("))
	of := p.names()
	if !i.isLatch {
		p.c.Gates = append(p.c.Gates, net.Canon(api.Gate{Name: own, Op: i.op, Ins: of}))
		return
	}
	if len(of) != 1 {
		p.fail(at, api.ErrArg)
	}
	p.c.Latches = append(p.c.Latches, api.Latch{Name: own, Next: of[0], Init: i.begin})
}

// names reads none or some names, and the bracket behind them.
func (p *parser) names() []string {
	if p.at < len(p.tokens) && p.tokens[p.at].Kind == markKind && p.tokens[p.at].Text == ")" {
		p.at++
		return nil
	}
	l := []string{take(p, name)}
	for take(p, mark(",)")) == "," {
		l = append(l, take(p, name))
	}
	return l
}
