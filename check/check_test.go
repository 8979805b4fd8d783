package check

import (
	"strings"
	"testing"

	"symcut/api"
	"symcut/names"
	"symcut/syntax"
)

// imported gives what the module under test, m, may import: itself, lib and alt.
func imported(self *syntax.Module, name string) *syntax.Module {
	text := ""
	switch name {
	case "m":
		return self
	case "lib":
		text = "pub fn one(x: int): int = x; pub fn two(a: bool, b: int): bool = a; fn own(): int = 1;"
	case "alt":
		text = "fn one(): bool = true; pub fn own(): bool = true; pub fn one(x: bool): bool = x; pub fn one(): int = 1;"
	default:
		return nil
	}
	m, _ := syntax.Parse(text)
	return m
}

// told holds what is told of a text against what must be: the sign @ marks the
// place, and is taken out.
func told(t *testing.T, marked string, want api.Errno) {
	t.Helper()
	before, behind, _ := strings.Cut(marked, "@")
	text, place := before+behind, len(before)
	if want == api.OK {
		place = 0
	}
	m, wrong := syntax.Parse(text)
	if m == nil {
		t.Fatalf("%q has not the form at %d", text, wrong)
	}
	view := &names.View{Name: "m", Module: m}
	for _, line := range m.Imports {
		view.Imports = append(view.Imports, imported(m, line.Name))
	}
	if code, at := Module(view); code != want || at != place {
		t.Errorf("%q: %d at %d, want %d at %d", text, code, at, want, place)
	}
}

func tellAll(t *testing.T, want api.Errno, marked []string) {
	t.Helper()
	for _, text := range marked {
		told(t, text, want)
	}
}

func TestNothingWrong(t *testing.T) {
	tellAll(t, api.OK, []string{
		"",
		"use m;",
		"use lib; use alt; use m;",
		"use lib; fn lib(lib: int): int = lib(lib);",
		"fn f(x: int): int = x; fn g(x: bool): bool = x;",
		"fn f(): int = -1 + 2 * 3 / 4 - 5;",
		"fn f(): bool = !(1 < 2);",
		"fn f(): bool = 1 + 2 == 3;",
		"fn f(b: bool): bool = if b then !b else true;",
		"fn f(b: bool): int = if if b then b else !b then 1 else 2;",
		"fn f(x: bool): int = let x = 1 in let x = x + 1 in x;",
		"fn f(x: int): int = (let x = true in 1) + x;",
		"fn f(x: int): int = if let x = true in x then x else 0;",
		"fn f(): int = g(); fn g(): int = f();",
		"use lib; fn f(): bool = two(true, one(2));",
		"use lib; fn one(b: bool): bool = b; fn f(): bool = one(true);",
		"use m; pub fn f(): int = g(); fn g(): int = f();",
	})
}

func TestTwice(t *testing.T) {
	tellAll(t, api.ErrTwice, []string{
		"use m; use @m;",
		"use lib; use m; use @lib; use m;",
		"fn f(): int = 1; fn @f(): bool = 1;",
		"pub fn f(): int = 1; fn g(): int = 2; pub fn @f(): int = 3; fn f(): int = 4;",
		"fn f(x: int, y: int, @x: bool): int = true;",
		"fn g(x: int): int = x; fn f(x: int, @x: int): int = z;",
	})
}

func TestImports(t *testing.T) {
	tellAll(t, api.ErrImport, []string{
		"use @none;",
		"use @none; use none;",
		"use lib; use @none; use lib;",
		"use @none; fn f(): int = g();",
	})
}

func TestUnknown(t *testing.T) {
	tellAll(t, api.ErrUnknown, []string{
		"fn f(): int = @x;",
		"fn f(): bool = (@x);",
		"fn f(): bool = @x + 1;",
		"fn f(): int = @f;",
		"fn f(x: int): int = @x(1);",
		"fn f(x: int): int = x; fn g(): int = @x;",
		"fn f(): int = let x = @x in 1;",
		"fn f(): int = (let x = 1 in x) + @x;",
		"fn f(): int = if let x = true in x then @x else 0;",
		"fn f(): int = let x = @y in if x then x + 1 else !x;",
		"fn f(): int = if true then @y else true;",
		"fn f(): int = @g(true + 1, x);",
		"fn f(): bool = if @g() then g() else 1;",
		"use lib; fn f(): int = @own();",
		"use lib; use m; fn f(): int = @three();",
	})
}

func TestArity(t *testing.T) {
	tellAll(t, api.ErrArity, []string{
		"fn f(x: int): int = @f();",
		"fn f(): int = @f(1);",
		"fn f(x: int): int = 1 + @f(1, true, y);",
		"fn f(x: int): bool = @f(1, 2);",
		"fn g(): int = @f(); fn f(x: int): int = x; fn f(): int = 1;",
		"use lib; fn f(): int = @one();",
		"use lib; use alt; fn f(): int = @one();",
		"use alt; fn f(): bool = @one();",
		"use lib; fn one(): int = 1; fn f(): int = @one(1);",
	})
}

func TestTypes(t *testing.T) {
	tellAll(t, api.ErrType, []string{
		"fn f(x: int): int = if @x then y else true;",
		"fn f(): int = @true;",
		"fn f(): bool = @(1);",
		"fn f(): bool = @-1;",
		"fn f(): int = @!true;",
		"fn f(): int = @1 == 2;",
		"fn f(): int = -@true;",
		"fn f(): int = -(1 + @(true));",
		"fn f(): bool = !@1;",
		"fn f(): bool = @true == true;",
		"fn f(): bool = 1 < @(1 < 2);",
		"fn f(): int = 1 - 2 / @true;",
		"fn f(): int = @true + x;",
		"fn f(): bool = @1 + x;",
		"fn f(): int = if true then 1 else @false;",
		"fn f(): int = @if true then false else 1;",
		"fn f(): int = @if x then true else 1;",
		"fn f(): int = 1 + @(if true then true else 1);",
		"fn f(): int = @let x = true in x;",
		"fn f(x: int): int = let x = true in 1 + @x;",
		"fn f(x: int): bool = @1 + f();",
		"fn f(x: int, y: bool): int = f(@y, x);",
		"fn f(x: int, y: bool): int = f(x, @x);",
		"fn f(x: int, y: bool): int = f(1, @f(1, y));",
		"use lib; fn f(): int = one(@true);",
		"use lib; fn f(): bool = @one(1);",
		"use alt; fn f(): bool = one(@1);",
		"use lib; use alt; fn f(): int = @own();",
	})
}

// Of what is wrong in several places the least one is told, wherever it comes up.
func TestLeastPlace(t *testing.T) {
	told(t, "fn g(): int = @true; fn g(x: int, x: int): int = y;", api.ErrType)
	told(t, "fn g(): int = @g(1); fn g(): int = 1;", api.ErrArity)
	told(t, "fn g(): int = 1 + @h(); fn g(): int = 1;", api.ErrUnknown)
	told(t, "use @none; fn g(): int = true; fn g(): int = 1;", api.ErrImport)
	told(t, "fn f(): int = 1; fn @f(x: int, x: int): int = true;", api.ErrTwice)
}

// Of several at one place the document's order decides, in whichever order they are told.
func TestOrderAtOnePlace(t *testing.T) {
	order := []api.Errno{api.ErrTwice, api.ErrImport, api.ErrUnknown, api.ErrArity, api.ErrType}
	for i, first := range order {
		for _, second := range order[i:] {
			for _, pair := range [][]api.Errno{{first, second}, {second, first}} {
				c := &checker{}
				c.tell(pair[0], 7)
				c.tell(pair[1], 7)
				if c.code != first || c.place != 7 {
					t.Errorf("of %v at one place %d is told, want %d", pair, c.code, first)
				}
			}
		}
	}
}
