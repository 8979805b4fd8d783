package code

import (
	"reflect"
	"slices"
	"strconv"
	"strings"
	"testing"

	"symcut/names"
	"symcut/syntax"
)

// compile gives the object of m, which may import lib and itself.
func compile(t *testing.T, text string) Object {
	t.Helper()
	m, place := syntax.Parse(text)
	if m == nil {
		t.Fatalf("%q has not the form at %d", text, place)
	}
	lib, _ := syntax.Parse("pub fn one(x: int): int = x; pub fn two(a: bool, b: int): bool = a;")
	v := &names.View{Name: "m", Module: m}
	for _, line := range m.Imports {
		if line.Name == "lib" {
			v.Imports = append(v.Imports, lib)
		} else {
			v.Imports = append(v.Imports, m)
		}
	}
	return Compile(v)
}

// listing writes a function's code in one line, with what it calls by name.
func listing(f *Function) string {
	var words []string
	for _, in := range f.Code {
		w := in.Op.String()
		switch {
		case in.Op == Call:
			w += " " + f.Calls[in.Value].Module + "." + f.Calls[in.Value].Name
		case in.Op.HasValue():
			w += " " + strconv.Itoa(in.Value)
		}
		words = append(words, w)
	}
	return strings.Join(words, ", ")
}

func TestCode(t *testing.T) {
	for _, c := range []struct {
		body, want string
		slots      int
	}{
		{"7", "push 7, return", 2},
		{"if true then false else true", "push 1, unless 4, push 0, jump 5, push 1, return", 2},
		{"b", "load 1, return", 2},
		{"(a)", "load 0, return", 2},
		{"-a", "load 0, negate, return", 2},
		{"!(a < b)", "load 0, load 1, less, not, return", 2},
		{"a == 1", "load 0, push 1, equal, return", 2},
		{"1 + 2 - 3", "push 1, push 2, add, push 3, subtract, return", 2},
		{"1 + 2 * 3 / 4", "push 1, push 2, push 3, multiply, push 4, divide, add, return", 2},
		{"let c = a in c", "load 0, store 2, load 2, return", 3},
		{"let a = a in a", "load 0, store 2, load 2, return", 3},
		{"let c = (let d = 1 in d) in let d = c in d + a", "push 1, store 2, load 2, store 2, load 2, store 3, load 3, load 0, add, return", 4},
		{"(let c = 1 in c) + (let d = 2 in d)", "push 1, store 2, load 2, push 2, store 2, load 2, add, return", 3},
		{"f(b, one(a))", "load 1, load 0, call lib.one, call m.f, return", 2},
		{"two(true, own())", "push 1, call m.own, call lib.two, return", 2},
	} {
		o := compile(t, "use m; use lib; fn own(): int = 1; pub fn f(a: int, b: int): int = "+c.body+";")
		f := &o.Functions[1]
		if got := listing(f); got != c.want || f.Slots != c.slots {
			t.Errorf("%s: %s (%d slots), want %s (%d slots)", c.body, got, f.Slots, c.want, c.slots)
		}
	}
}

func TestObject(t *testing.T) {
	o := compile(t, "pub fn f(a: int, b: bool): bool = b; fn g(): int = 1;")
	want := []Function{
		{Symbol: Symbol{"m", "f"}, Public: true, Params: []syntax.Type{syntax.Int, syntax.Bool}, Signature: "int,bool:bool", Slots: 2, Code: []Instruction{{Load, 1}, {Return, 0}}},
		{Symbol: Symbol{"m", "g"}, Signature: ":int", Code: []Instruction{{Push, 1}, {Return, 0}}},
	}
	if !reflect.DeepEqual(o.Functions, want) {
		t.Errorf("the object is %v, want %v", o.Functions, want)
	}
	if o := compile(t, "use lib;"); o.Functions != nil {
		t.Errorf("the object of no functions is %v", o)
	}
}

func TestOpsHaveNames(t *testing.T) {
	var seen []string
	for o := Push; o <= Not; o++ {
		if o.String() == "" || slices.Contains(seen, o.String()) {
			t.Errorf("op %d has no name of its own: %q", int(o), o.String())
		}
		seen = append(seen, o.String())
	}
}
