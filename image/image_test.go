package image

import (
	"reflect"
	"testing"

	"symcut/code"
	"symcut/syntax"
)

// objects gives two that call one another, and whose functions have names in common.
func objects() []code.Object {
	a := code.Object{Functions: []code.Function{
		{
			Symbol: code.Symbol{Module: "a", Name: "f"}, Public: true, Signature: ":int",
			Code:  []code.Instruction{{Op: code.Call, Value: 0}, {Op: code.Call, Value: 1}, {Op: code.Add}, {Op: code.Return}},
			Calls: []code.Symbol{{Module: "b", Name: "g"}, {Module: "a", Name: "g"}},
		},
		{Symbol: code.Symbol{Module: "a", Name: "g"}, Signature: ":int", Code: []code.Instruction{{Op: code.Push, Value: 5}, {Op: code.Return}}},
	}}
	b := code.Object{Functions: []code.Function{
		{Symbol: code.Symbol{Module: "b", Name: "f"}, Signature: "bool:bool", Params: []syntax.Type{syntax.Bool}, Slots: 1, Code: []code.Instruction{{Op: code.Load}, {Op: code.Return}}},
		{
			Symbol: code.Symbol{Module: "b", Name: "g"}, Public: true, Signature: ":int",
			Code:  []code.Instruction{{Op: code.Call, Value: 0}, {Op: code.Return}},
			Calls: []code.Symbol{{Module: "a", Name: "f"}},
		},
	}}
	return []code.Object{a, b}
}

const linked = `functions 4
pub fn a.f :int slots 0
	call 3
	call 1
	add
	return
fn a.g :int slots 0
	push 5
	return
fn b.f bool:bool slots 1
	load 0
	return
pub fn b.g :int slots 0
	call 0
	return
`

func TestLink(t *testing.T) {
	o := objects()
	for range 2 {
		if got := Link(o).Text(); got != linked {
			t.Errorf("the image is %s, want %s", got, linked)
		}
	}
	if !reflect.DeepEqual(o, objects()) {
		t.Error("objects are written into")
	}
}

func TestNoFunctions(t *testing.T) {
	for _, o := range [][]code.Object{nil, {{}}} {
		if got := Link(o).Text(); got != "functions 0\n" {
			t.Errorf("the image of no functions is %q", got)
		}
	}
}

func TestExported(t *testing.T) {
	m := Link(objects())
	for _, c := range []struct {
		module, name string
		want         int
	}{
		{"a", "f", 0}, {"b", "g", 3}, {"a", "g", -1}, {"b", "f", -1}, {"c", "f", -1}, {"a", "h", -1}, {"", "", -1},
	} {
		if got := m.Exported(c.module, c.name); got != c.want {
			t.Errorf("Exported(%s, %s) = %d, want %d", c.module, c.name, got, c.want)
		}
	}
}
