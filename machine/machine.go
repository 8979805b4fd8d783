// Package machine runs the functions of an image.
package machine

import (
	"symcut/api"
	"symcut/code"
	"symcut/image"
)

// frame is a call that has not come back.
type frame struct {
	function *code.Function
	next     int // the place of its next instruction
	base     int // of its slots in the stack; what it works out lies above them
}

type machine struct {
	image  *image.Image
	stack  []int
	frames []frame // the innermost one last
	fuel   int
	wrong  api.Errno
}

// Run calls the function at that place of the image. There are as many args as
// it has parameters, and they fit their types.
func Run(m *image.Image, function int, args []int, fuel int) (int, api.Errno) {
	run := &machine{image: m, fuel: fuel}
	run.stack = append(run.stack, args...)
	run.call(function)
	run.work()
	if run.wrong != api.OK {
		return 0, run.wrong
	}
	return run.pop(), api.OK
}

// work ends, as jumps go forward alone, and every call needs fuel.
func (m *machine) work() {
	table := steps()
	for m.wrong == api.OK && len(m.frames) > 0 {
		f := m.frame()
		in := f.function.Code[f.next]
		f.next++
		table[in.Op](m, in.Value)
	}
}

// steps is what the machine does at each instruction, whose value comes along.
func steps() []func(*machine, int) {
	return []func(*machine, int){
		code.Push:     (*machine).push,
		code.Load:     (*machine).load,
		code.Store:    (*machine).store,
		code.Jump:     (*machine).jump,
		code.Unless:   (*machine).unless,
		code.Call:     (*machine).call,
		code.Return:   (*machine).giveBack,
		code.Less:     (*machine).less,
		code.Equal:    (*machine).equal,
		code.Add:      (*machine).add,
		code.Subtract: (*machine).subtract,
		code.Multiply: (*machine).multiply,
		code.Divide:   (*machine).divide,
		code.Negate:   (*machine).negate,
		code.Not:      (*machine).not,
	}
}

func (m *machine) frame() *frame { return &m.frames[len(m.frames)-1] }

func (m *machine) pop() int {
	top := m.stack[len(m.stack)-1]
	m.stack = m.stack[:len(m.stack)-1]
	return top
}

func (m *machine) popPair() (int, int) {
	right := m.pop()
	return m.pop(), right
}

func (m *machine) pushTruth(holds bool) {
	if holds {
		m.push(1)
	} else {
		m.push(0)
	}
}
