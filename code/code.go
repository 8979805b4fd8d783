// Package code has the instructions of the machine, and compiles a module to them.
package code

import "symcut/syntax"

// Op says what an instruction does to the stack.
type Op int

const (
	Push   Op = iota // lays Value on it
	Load             // lays the variable in slot Value on it
	Store            // takes the top, for the variable in slot Value
	Jump             // goes to Value
	Unless           // takes the top, and goes to Value if that is false
	Call             // takes what is handed over, and calls function Value
	Return           // takes the top, and hands it to the caller
	Less             // takes two, gives one, as all that follow but the last two
	Equal
	Add
	Subtract
	Multiply
	Divide
	Negate // takes one, gives one
	Not    // takes one, gives one
)

func (o Op) String() string {
	return [...]string{
		"push", "load", "store", "jump", "unless", "call", "return", "less", "equal",
		"add", "subtract", "multiply", "divide", "negate", "not",
	}[o]
}

// HasValue tells whether the instruction's Value has a meaning.
func (o Op) HasValue() bool { return o <= Call }

// Instruction is one step. Jumps go to places within the function.
type Instruction struct {
	Op    Op
	Value int
}

// Symbol names a function from outside its module.
type Symbol struct {
	Module, Name string
}

// Function is a function's code. Until it is linked, the Value of a call is a
// place in Calls: where the functions of other modules will lie is not known.
type Function struct {
	Symbol
	Public    bool
	Params    []syntax.Type
	Signature string
	Slots     int // as many variables, parameters too, are there at once
	Code      []Instruction
	Calls     []Symbol
}

// Object is what a module is compiled to, by itself.
type Object struct {
	Functions []Function
}
