package code

import (
	"symcut/names"
	"symcut/syntax"
)

// coder writes the code of one function.
type coder struct {
	view  *names.View
	scope []string // the variables, the innermost one last; their places are their slots
	out   Function
}

// Compile gives the object of a module with which nothing is wrong.
func Compile(view *names.View) Object {
	var o Object
	for i := range view.Module.Functions {
		o.Functions = append(o.Functions, compileFunction(view, &view.Module.Functions[i]))
	}
	return o
}

func compileFunction(view *names.View, f *syntax.Function) Function {
	c := &coder{view: view}
	c.out.Symbol = Symbol{view.Name, f.Name}
	c.out.Public = f.Public
	c.out.Signature = f.Signature()
	for _, p := range f.Params {
		c.out.Params = append(c.out.Params, p.Type)
		c.enter(p.Name)
	}
	c.expr(&f.Body)
	c.emit(Return, 0)
	return c.out
}

// enter gives a variable its slot.
func (c *coder) enter(name string) int {
	c.scope = append(c.scope, name)
	c.out.Slots = max(c.out.Slots, len(c.scope))
	return len(c.scope) - 1
}

// emit writes an instruction, and gives its place.
func (c *coder) emit(op Op, value int) int {
	c.out.Code = append(c.out.Code, Instruction{op, value})
	return len(c.out.Code) - 1
}

// land lets a jump that was written with an unknown aim go to what is written next.
func (c *coder) land(jump int) { c.out.Code[jump].Value = len(c.out.Code) }

// expr writes code that lays the value of an expression on the stack.
func (c *coder) expr(e *syntax.Expr) {
	switch e.Kind {
	case syntax.Number, syntax.Truth:
		c.emit(Push, e.Value)
	case syntax.Variable:
		c.emit(Load, c.slot(e.Name))
	case syntax.Bracket:
		c.expr(&e.Parts[0])
	case syntax.If:
		c.choice(e)
	case syntax.Let:
		c.binding(e)
	case syntax.Call:
		c.call(e)
	default:
		c.parts(e)
		c.emit(operator(e.Kind), 0)
	}
}

func (c *coder) parts(e *syntax.Expr) {
	for i := range e.Parts {
		c.expr(&e.Parts[i])
	}
}

// slot finds the innermost variable of that name.
func (c *coder) slot(name string) int {
	slot := len(c.scope) - 1
	for slot > 0 && c.scope[slot] != name {
		slot--
	}
	return slot
}

func (c *coder) choice(e *syntax.Expr) {
	c.expr(&e.Parts[0])
	toElse := c.emit(Unless, 0)
	c.expr(&e.Parts[1])
	toEnd := c.emit(Jump, 0)
	c.land(toElse)
	c.expr(&e.Parts[2])
	c.land(toEnd)
}

func (c *coder) binding(e *syntax.Expr) {
	outside := len(c.scope)
	c.expr(&e.Parts[0])
	c.emit(Store, c.enter(e.Name))
	c.expr(&e.Parts[1])
	c.scope = c.scope[:outside]
}

func (c *coder) call(e *syntax.Expr) {
	c.parts(e)
	module, _ := c.view.Find(e.Name)
	c.out.Calls = append(c.out.Calls, Symbol{module, e.Name})
	c.emit(Call, len(c.out.Calls)-1)
}

func operator(kind syntax.Kind) Op {
	switch kind {
	case syntax.Less:
		return Less
	case syntax.Equal:
		return Equal
	case syntax.Add:
		return Add
	case syntax.Subtract:
		return Subtract
	case syntax.Multiply:
		return Multiply
	case syntax.Divide:
		return Divide
	case syntax.Negate:
		return Negate
	}
	return Not
}
