package syntax

import "strings"

// Type is what an expression gives.
type Type int

const (
	Any Type = iota // what has an error of its own fits everywhere
	Int
	Bool
)

func (t Type) String() string {
	switch t {
	case Int:
		return "int"
	case Bool:
		return "bool"
	}
	return "any"
}

// Module is a text that has the form.
type Module struct {
	Imports   []Import
	Functions []Function
}

// Import names a module; Place is that of the name.
type Import struct {
	Name  string
	Place int
}

// Function is one function of a module; Place is that of its name.
type Function struct {
	Name   string
	Place  int
	Public bool
	Params []Param
	Result Type
	Body   Expr
}

// Signature gives the parameters' types, with commas between, a colon, the type.
func (f *Function) Signature() string {
	var types []string
	for _, p := range f.Params {
		types = append(types, p.Type.String())
	}
	return strings.Join(types, ",") + ":" + f.Result.String()
}

// Param is one parameter; Place is that of its name.
type Param struct {
	Name  string
	Place int
	Type  Type
}

// Kind says what an expression is, and so what its parts are.
type Kind int

const (
	Number   Kind = iota // Value
	Truth                // Value is 0 or 1
	Variable             // Name
	Call                 // Name; the parts are what is handed over
	Bracket              // one part; kept, as its first word is the bracket
	If                   // condition, then, else
	Let                  // Name; value, the part behind "in"
	Less                 // left, right, as in all that follow but the last two
	Equal
	Add
	Subtract
	Multiply
	Divide
	Negate // one part
	Not    // one part
)

// Expr is an expression; Place is that of its first word.
type Expr struct {
	Kind  Kind
	Place int
	Name  string
	Value int
	Parts []Expr
}

// Own gives the module's own function of that name, or nil.
func (m *Module) Own(name string) *Function {
	for i := range m.Functions {
		if m.Functions[i].Name == name {
			return &m.Functions[i]
		}
	}
	return nil
}

// Exported gives the function that the module exports by that name, or nil.
func (m *Module) Exported(name string) *Function {
	for i := range m.Functions {
		if m.Functions[i].Public && m.Functions[i].Name == name {
			return &m.Functions[i]
		}
	}
	return nil
}
