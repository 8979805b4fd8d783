package syntax

import (
	"slices"
	"strconv"
)

// parser goes through the words. Once one can't stand where it does, the parser
// jumps to the end word: nothing can be read there, so that all readers end.
type parser struct {
	words  []word
	next   int
	failed bool
	place  int // of the first word that can't stand there
}

// Parse reads a module. Of a text that has not the form it gives nil, and the
// place of the first word that can't stand there.
func Parse(text string) (*Module, int) {
	p := &parser{words: splitWords(text)}
	m := p.module()
	if p.failed {
		return nil, p.place
	}
	return m, 0
}

func (p *parser) current() word { return p.words[p.next] }

// advance steps over the current word; the end word is never left.
func (p *parser) advance() word {
	w := p.current()
	p.next = min(p.next+1, len(p.words)-1)
	return w
}

func (p *parser) fail() {
	if !p.failed {
		p.failed, p.place = true, p.current().place
	}
	p.next = len(p.words) - 1
}

// at tells whether the current word is one of these keywords or signs.
func (p *parser) at(fixed ...string) bool {
	w := p.current()
	return w.kind == fixedWord && slices.Contains(fixed, w.text)
}

// skip steps over that keyword or sign, if it is there.
func (p *parser) skip(fixed string) bool {
	if !p.at(fixed) {
		return false
	}
	p.advance()
	return true
}

// expect steps over that keyword or sign, which must be there.
func (p *parser) expect(fixed string) {
	if !p.skip(fixed) {
		p.fail()
	}
}

// name reads a name, which must be there.
func (p *parser) name() word {
	if p.current().kind != nameWord {
		p.fail()
		return word{}
	}
	return p.advance()
}

// whileAt reads again and again, as long as one of these keywords stands there.
func whileAt[T any](p *parser, read func() T, keywords ...string) []T {
	var all []T
	for p.at(keywords...) {
		all = append(all, read())
	}
	return all
}

// inBrackets reads a list with commas between and brackets around; it may be empty.
func inBrackets[T any](p *parser, read func() T) []T {
	p.expect("(")
	if p.skip(")") {
		return nil
	}
	all := []T{read()}
	for p.skip(",") {
		all = append(all, read())
	}
	p.expect(")")
	return all
}

func (p *parser) module() *Module {
	m := &Module{}
	m.Imports = whileAt(p, p.importLine, "use")
	m.Functions = whileAt(p, p.function, "pub", "fn")
	if p.current().kind != endWord {
		p.fail()
	}
	return m
}

func (p *parser) importLine() Import {
	p.expect("use")
	name := p.name()
	p.expect(";")
	return Import{Name: name.text, Place: name.place}
}

func (p *parser) function() Function {
	f := Function{Public: p.skip("pub")}
	p.expect("fn")
	name := p.name()
	f.Name, f.Place = name.text, name.place
	f.Params = inBrackets(p, p.param)
	p.expect(":")
	f.Result = p.typeName()
	p.expect("=")
	f.Body = p.expr()
	p.expect(";")
	return f
}

func (p *parser) param() Param {
	name := p.name()
	p.expect(":")
	return Param{Name: name.text, Place: name.place, Type: p.typeName()}
}

func (p *parser) typeName() Type {
	if p.skip("int") {
		return Int
	}
	p.expect("bool")
	return Bool
}

func (p *parser) expr() Expr {
	switch {
	case p.at("if"):
		return p.choice()
	case p.at("let"):
		return p.binding()
	}
	return p.compare()
}

func (p *parser) choice() Expr {
	place := p.advance().place
	condition := p.expr()
	p.expect("then")
	whenTrue := p.expr()
	p.expect("else")
	whenFalse := p.expr()
	return Expr{Kind: If, Place: place, Parts: []Expr{condition, whenTrue, whenFalse}}
}

func (p *parser) binding() Expr {
	place := p.advance().place
	name := p.name()
	p.expect("=")
	value := p.expr()
	p.expect("in")
	rest := p.expr()
	return Expr{Kind: Let, Place: place, Name: name.text, Parts: []Expr{value, rest}}
}

func (p *parser) compare() Expr {
	left := p.sum()
	if p.at("<", "==") {
		return p.pair(left, p.sum)
	}
	return left
}

func (p *parser) sum() Expr  { return p.chain(p.term, "+", "-") }
func (p *parser) term() Expr { return p.chain(p.factor, "*", "/") }

// chain reads one or more with these signs between, which bind to the left.
func (p *parser) chain(read func() Expr, signs ...string) Expr {
	left := read()
	for p.at(signs...) {
		left = p.pair(left, read)
	}
	return left
}

// pair reads a sign and what stands to its right.
func (p *parser) pair(left Expr, read func() Expr) Expr {
	kind := pairKind(p.advance().text)
	return Expr{Kind: kind, Place: left.Place, Parts: []Expr{left, read()}}
}

func pairKind(sign string) Kind {
	switch sign {
	case "<":
		return Less
	case "==":
		return Equal
	case "+":
		return Add
	case "-":
		return Subtract
	case "*":
		return Multiply
	}
	return Divide
}

func (p *parser) factor() Expr {
	switch p.current().kind {
	case numberWord:
		return p.number()
	case nameWord:
		return p.named()
	}
	switch {
	case p.at("true", "false"):
		return p.truth()
	case p.at("("):
		return p.bracket()
	case p.at("-"):
		return p.sign(Negate)
	case p.at("!"):
		return p.sign(Not)
	}
	p.fail()
	return Expr{}
}

func (p *parser) number() Expr {
	w := p.advance()
	// A number word is so short that its value always fits.
	value, _ := strconv.Atoi(w.text)
	return Expr{Kind: Number, Place: w.place, Value: value}
}

func (p *parser) truth() Expr {
	w := p.advance()
	e := Expr{Kind: Truth, Place: w.place}
	if w.text == "true" {
		e.Value = 1
	}
	return e
}

func (p *parser) bracket() Expr {
	place := p.advance().place
	inner := p.expr()
	p.expect(")")
	return Expr{Kind: Bracket, Place: place, Parts: []Expr{inner}}
}

func (p *parser) sign(kind Kind) Expr {
	place := p.advance().place
	return Expr{Kind: kind, Place: place, Parts: []Expr{p.factor()}}
}

func (p *parser) named() Expr {
	w := p.advance()
	if p.at("(") {
		return Expr{Kind: Call, Place: w.place, Name: w.text, Parts: inBrackets(p, p.expr)}
	}
	return Expr{Kind: Variable, Place: w.place, Name: w.text}
}
