// Package check tells what is wrong with a module whose text has the form.
package check

import (
	"symcut/api"
	"symcut/names"
	"symcut/syntax"
)

type variable struct {
	name string
	typ  syntax.Type
}

type checker struct {
	view  *names.View
	scope []variable // the innermost one last
	code  api.Errno
	place int
}

// Module tells the one thing that is told of a module, and its place: OK and 0,
// if nothing is wrong.
func Module(view *names.View) (api.Errno, int) {
	c := &checker{view: view}
	c.checkImports()
	c.checkNames()
	for i := range view.Module.Functions {
		c.checkFunction(&view.Module.Functions[i])
	}
	return c.code, c.place
}

// tell keeps, of all that is told, what has the least place.
func (c *checker) tell(code api.Errno, place int) {
	if c.code == api.OK || place < c.place || place == c.place && rank(code) < rank(c.code) {
		c.code, c.place = code, place
	}
}

// rank is the document's order, which is not that of the errors' numbers.
func rank(code api.Errno) int {
	switch code {
	case api.ErrTwice:
		return 0
	case api.ErrImport:
		return 1
	case api.ErrUnknown:
		return 2
	case api.ErrArity:
		return 3
	}
	return 4
}

func (c *checker) checkImports() {
	seen := map[string]int{}
	for i, line := range c.view.Module.Imports {
		c.once(seen, line.Name, line.Place)
		if c.view.Imports[i] == nil {
			c.tell(api.ErrImport, line.Place)
		}
	}
}

func (c *checker) checkNames() {
	seen := map[string]int{}
	for _, f := range c.view.Module.Functions {
		c.once(seen, f.Name, f.Place)
	}
}

// once tells of a name that stood before, and counts it.
func (c *checker) once(seen map[string]int, name string, place int) {
	if seen[name] > 0 {
		c.tell(api.ErrTwice, place)
	}
	seen[name]++
}

func (c *checker) checkFunction(f *syntax.Function) {
	c.scope = nil
	seen := map[string]int{}
	for _, p := range f.Params {
		c.once(seen, p.Name, p.Place)
		c.scope = append(c.scope, variable{p.Name, p.Type})
	}
	c.must(&f.Body, f.Result)
}

// must tells of a part that has another type than it must.
func (c *checker) must(e *syntax.Expr, want syntax.Type) {
	got := c.typeOf(e)
	if got != want && got != syntax.Any && want != syntax.Any {
		c.tell(api.ErrType, e.Place)
	}
}

// all is must, for each of some parts.
func (c *checker) all(parts []syntax.Expr, want syntax.Type) {
	for i := range parts {
		c.must(&parts[i], want)
	}
}

// typeOf tells of all that is wrong within an expression, and gives its type.
func (c *checker) typeOf(e *syntax.Expr) syntax.Type {
	switch e.Kind {
	case syntax.Truth:
		return syntax.Bool
	case syntax.Variable:
		return c.variableType(e)
	case syntax.Call:
		return c.callType(e)
	case syntax.Bracket:
		return c.typeOf(&e.Parts[0])
	case syntax.If:
		return c.ifType(e)
	case syntax.Let:
		return c.letType(e)
	case syntax.Less, syntax.Equal:
		c.all(e.Parts, syntax.Int)
		return syntax.Bool
	case syntax.Not:
		c.all(e.Parts, syntax.Bool)
		return syntax.Bool
	}
	// All other kinds take int and give it; a number, which takes nothing, has no parts.
	c.all(e.Parts, syntax.Int)
	return syntax.Int
}

func (c *checker) variableType(e *syntax.Expr) syntax.Type {
	for i := len(c.scope) - 1; i >= 0; i-- {
		if c.scope[i].name == e.Name {
			return c.scope[i].typ
		}
	}
	c.tell(api.ErrUnknown, e.Place)
	return syntax.Any
}

func (c *checker) callType(e *syntax.Expr) syntax.Type {
	_, f := c.view.Find(e.Name)
	if f == nil {
		c.tell(api.ErrUnknown, e.Place)
		c.all(e.Parts, syntax.Any)
		return syntax.Any
	}
	if len(e.Parts) != len(f.Params) {
		c.tell(api.ErrArity, e.Place)
	}
	fitting := min(len(e.Parts), len(f.Params))
	for i := range fitting {
		c.must(&e.Parts[i], f.Params[i].Type)
	}
	c.all(e.Parts[fitting:], syntax.Any)
	return f.Result
}

func (c *checker) ifType(e *syntax.Expr) syntax.Type {
	c.must(&e.Parts[0], syntax.Bool)
	whole := c.typeOf(&e.Parts[1])
	c.must(&e.Parts[2], whole)
	return whole
}

func (c *checker) letType(e *syntax.Expr) syntax.Type {
	outside := len(c.scope)
	value := c.typeOf(&e.Parts[0])
	c.scope = append(c.scope, variable{e.Name, value})
	whole := c.typeOf(&e.Parts[1])
	c.scope = c.scope[:outside]
	return whole
}
