package symcut

import (
	"math"
	"slices"
	"strings"
	"testing"

	"symcut/api"
)

func runs(t *testing.T, s *Store, module, function string, args []int, fuel, want int) {
	t.Helper()
	if got, e := s.Run(module, function, args, fuel); got != want || e != api.OK {
		t.Errorf("Run(%s, %s, %v, %d) = %d, %d, want %d", module, function, args, fuel, got, e, want)
	}
}

func fails(t *testing.T, s *Store, module, function string, args []int, fuel int, want api.Errno) {
	t.Helper()
	if got, e := s.Run(module, function, args, fuel); got != 0 || e != want {
		t.Errorf("Run(%s, %s, %v, %d) = %d, %d, want error %d", module, function, args, fuel, got, e, want)
	}
}

// built gives a store with these modules, in which nothing is wrong.
func built(t *testing.T, modules ...string) *Store {
	t.Helper()
	s := stored(t, modules...)
	builds(t, s)
	return s
}

const (
	twice = "pub fn twice(n: int): int = n + n;"
	main3 = "use m; pub fn main(k: int): int = if k < 1 then 0 else twice(k) + main(k - 1);"
)

func TestP5Example(t *testing.T) {
	s := built(t, "m", twice, "a", main3)
	runs(t, s, "a", "main", []int{3}, 100, 12)
	runs(t, s, "a", "main", []int{3}, 7, 12)
	fails(t, s, "a", "main", []int{3}, 6, api.ErrFuel)
}

func TestP5Values(t *testing.T) {
	for _, c := range []struct {
		body string
		want int
	}{
		{"2 + 3 * 4", 14}, {"(2 + 3) * 4", 20}, {"20 - 5 - 3", 12}, {"20 - (5 - 3)", 18}, {"40 / 4 / 2", 5}, {"9 * 3 / 2", 13}, {"9 / 2 * 3", 12},
		{"-9 / 2", -4}, {"9 / -2", -4}, {"-9 / -2", 4}, {"---4", -4}, {"1--1", 2}, {"000000012", 12}, {"999999999", 999999999},
		{"if 1 < 2 then 3 else 1 / 0", 3}, {"if 2 == 1 then 1 / 0 else 4", 4}, {"if if true then false else true then 1 else 2", 2},
		{"if 2 < 2 then 1 else 0", 0}, {"if 2 == 2 then 1 else 0", 1}, {"if !false then 1 else 0", 1},
		{"let x = 3 in let y = x + 1 in x * y", 12}, {"let x = 1 in (let x = 2 in x * 10) + x", 21}, {"let x = (let x = 5 in x + 1) in x", 6},
		{"1 + (let x = 2 in x) * (let x = 3 in x)", 7},
	} {
		runs(t, built(t, "m", "pub fn f(): int = "+c.body+";"), "m", "f", nil, 1, c.want)
	}
}

func TestP5NumbersWrapRound(t *testing.T) {
	const least, greatest = math.MinInt, math.MaxInt
	s := built(t, "m", `pub fn add(a: int, b: int): int = a + b; pub fn sub(a: int, b: int): int = a - b;
pub fn mul(a: int, b: int): int = a * b; pub fn div(a: int, b: int): int = a / b; pub fn neg(a: int): int = -a;
pub fn less(a: int, b: int): bool = a < b;`)
	for _, c := range []struct {
		function string
		a, b     int
		want     int
	}{
		{"add", greatest, 1, least}, {"add", least, -1, greatest}, {"sub", least, 1, greatest}, {"sub", 0, least, least},
		{"mul", greatest, 2, -2}, {"mul", 1 << 32, 1 << 31, least}, {"mul", 1 << 32, 1 << 32, 0}, {"mul", least, -1, least},
		{"div", least, -1, least}, {"div", greatest, -1, -greatest}, {"div", least, 2, -1 << 62}, {"less", least, greatest, 1}, {"less", greatest, least, 0},
	} {
		runs(t, s, "m", c.function, []int{c.a, c.b}, 1, c.want)
	}
	runs(t, s, "m", "neg", []int{least}, 1, least)
	fails(t, s, "m", "div", []int{least, 0}, 1, api.ErrZero)
	fails(t, s, "m", "div", []int{0, 0}, 1, api.ErrZero)
}

func TestP5Bools(t *testing.T) {
	s := built(t, "m", "pub fn not(b: bool): bool = !b; pub fn same(a: bool, b: bool): bool = if a then b else !b; pub fn both(n: int, b: bool): int = if b then n else -n;")
	runs(t, s, "m", "not", []int{0}, 1, 1)
	runs(t, s, "m", "not", []int{1}, 1, 0)
	for a := range 2 {
		for b := range 2 {
			want := 0
			if a == b {
				want = 1
			}
			runs(t, s, "m", "same", []int{a, b}, 1, want)
		}
	}
	for _, n := range []int{-1, 2, math.MinInt, math.MaxInt} {
		fails(t, s, "m", "not", []int{n}, 1, api.ErrRange)
		fails(t, s, "m", "same", []int{n, 1}, 1, api.ErrRange)
		fails(t, s, "m", "same", []int{1, n}, 1, api.ErrRange)
		runs(t, s, "m", "both", []int{n, 1}, 1, n)
		fails(t, s, "m", "both", []int{1, n}, 1, api.ErrRange)
	}
}

// What is not asked for is worked out all the same, but for the other part of an if.
func TestP5WhatIsWorkedOut(t *testing.T) {
	s := built(t, "m", `fn f(a: int, b: int): int = a; fn b(n: int): bool = n < 1;
pub fn value(): int = let x = 1 / 0 in 2; pub fn handed(): int = f(1, 1 / 0); pub fn cond(): int = if 1 / 0 == 0 then 1 else 2;
pub fn left(): int = 1 / 0 + f(1, 1); pub fn right(): int = f(1, 1) / 0; pub fn whole(n: int): int = if b(n) then 1 / n else 7;`)
	for _, function := range []string{"value", "handed", "cond", "left"} {
		fails(t, s, "m", function, nil, 1, api.ErrZero)
	}
	fails(t, s, "m", "right", nil, 1, api.ErrFuel)
	fails(t, s, "m", "right", nil, 2, api.ErrZero)
	fails(t, s, "m", "whole", []int{0}, 2, api.ErrZero)
	runs(t, s, "m", "whole", []int{1}, 2, 7)
}

func TestP5Fuel(t *testing.T) {
	s := built(t, "m", `fn f(a: int, b: int): int = a; fn one(): int = 1; pub fn two(): int = one() + one(); pub fn none(): int = 5;
pub fn ahead(): int = f(one(), 1 / 0); pub fn some(n: int): int = if n < 1 then 0 else one() + some(n - 1);
pub fn fib(n: int): int = if n < 2 then n else fib(n - 1) + fib(n - 2);`)
	fails(t, s, "m", "none", nil, 0, api.ErrFuel)
	runs(t, s, "m", "none", nil, 1, 5)
	runs(t, s, "m", "two", nil, 3, 2)
	fails(t, s, "m", "two", nil, 2, api.ErrFuel)
	fails(t, s, "m", "ahead", nil, 1, api.ErrFuel)
	fails(t, s, "m", "ahead", nil, 2, api.ErrZero)
	runs(t, s, "m", "some", []int{98}, 197, 98)
	fails(t, s, "m", "some", []int{98}, 196, api.ErrFuel)
	runs(t, s, "m", "fib", []int{18}, api.MaxFuel, 2584)
	runs(t, s, "m", "fib", []int{18}, 8361, 2584)
	fails(t, s, "m", "fib", []int{18}, 8360, api.ErrFuel)
	fails(t, s, "m", "fib", []int{19}, api.MaxFuel, api.ErrFuel)
	for _, fuel := range []int{-1, api.MaxFuel + 1, math.MinInt, math.MaxInt} {
		fails(t, s, "m", "none", nil, fuel, api.ErrRange)
	}
}

func TestP5Depth(t *testing.T) {
	s := built(t, "m", "use n; pub fn deep(n: int): int = if n < 2 then 1 else 1 + deep(n - 1); pub fn a(n: int): int = if n < 2 then 1 else 1 + b(n - 1); pub fn ever(): int = ever();",
		"n", "use m; pub fn b(n: int): int = if n < 2 then 1 else 1 + a(n - 1);")
	for _, function := range []string{"deep", "a"} {
		runs(t, s, "m", function, []int{api.MaxDepth}, api.MaxFuel, api.MaxDepth)
		runs(t, s, "m", function, []int{api.MaxDepth}, api.MaxDepth, api.MaxDepth)
		fails(t, s, "m", function, []int{api.MaxDepth}, api.MaxDepth-1, api.ErrFuel)
		fails(t, s, "m", function, []int{api.MaxDepth + 1}, api.MaxFuel, api.ErrDepth)
		fails(t, s, "m", function, []int{api.MaxDepth + 1}, api.MaxDepth+1, api.ErrDepth)
		fails(t, s, "m", function, []int{api.MaxDepth + 1}, api.MaxDepth, api.ErrFuel)
	}
	fails(t, s, "m", "ever", nil, api.MaxFuel, api.ErrDepth)
}

// What is handed over is not within the call: that has not begun.
func TestP5WhatIsHandedOverIsNotWithinTheCall(t *testing.T) {
	s := built(t, "m", "fn id(n: int): int = n; pub fn deep(n: int): int = if n < 2 then id(id(id(7))) else deep(n - 1);")
	runs(t, s, "m", "deep", []int{api.MaxDepth - 1}, api.MaxFuel, 7)
	fails(t, s, "m", "deep", []int{api.MaxDepth}, api.MaxFuel, api.ErrDepth)
}

func TestP5WhichFunctionIsCalled(t *testing.T) {
	s := built(t,
		"m", "use gap; use one; use two; pub fn f(): int = dup(); pub fn own(): int = 1; pub fn g(): int = own(); pub fn h(): int = hid() + via();",
		"gap", "fn dup(): int = 9; fn hid(): int = 9;",
		"one", "pub fn dup(): int = 10; pub fn own(): int = 9; fn hid(): int = 9; pub fn via(): int = hid() * 100;",
		"two", "pub fn dup(): int = 20; pub fn hid(): int = 30;")
	runs(t, s, "m", "f", nil, 2, 10)
	runs(t, s, "m", "g", nil, 2, 1)
	runs(t, s, "m", "h", nil, 4, 930)
	set(t, s, "gap", "pub fn dup(): int = 7;")
	builds(t, s)
	runs(t, s, "m", "f", nil, 2, 7)
	set(t, s, "gap", "", "one", "pub fn via(): int = 0;")
	builds(t, s)
	runs(t, s, "m", "f", nil, 2, 20)
	runs(t, s, "m", "h", nil, 3, 30)
}

func TestP5WrongInputs(t *testing.T) {
	s := built(t, "m", "use n; pub fn f(a: int, b: bool): int = a; fn hid(): int = 1; pub fn nil(): int = hid();", "n", "pub fn g(): int = 1;")
	for _, c := range [][2]string{{"x", "f"}, {"m", "hid"}, {"m", "g"}, {"n", "f"}, {"m", "none"}, {"m", ""}, {"", "f"}, {"", ""}, {"M", "f"}, {"m", "F"}, {"use", "fn"}, {"m.f", ""}, {"f", "m"}} {
		fails(t, s, c[0], c[1], []int{1, 2, 3}, -1, api.ErrUnknown)
	}
	for _, args := range [][]int{nil, {}, {1}, {1, 2, 3}, make([]int, 1000)} {
		fails(t, s, "m", "f", args, -1, api.ErrArity)
	}
	fails(t, s, "m", "nil", []int{2}, 1, api.ErrArity)
	fails(t, s, "m", "f", []int{1, 2}, 0, api.ErrRange)
	fails(t, s, "m", "f", []int{1, 1}, -1, api.ErrRange)
	fails(t, s, "m", "f", []int{1, 1}, 0, api.ErrFuel)
	runs(t, s, "m", "nil", []int{}, 2, 1)
}

func TestP5NoImage(t *testing.T) {
	s := stored(t, "m", twice)
	noImage := func(when string) {
		t.Helper()
		if got := s.Image(); got != "" {
			t.Errorf("the image %s is %q", when, got)
		}
		fails(t, s, "m", "twice", []int{1}, 1, api.ErrBuild)
		fails(t, s, "x", "", nil, -1, api.ErrBuild)
	}
	noImage("ahead of a Build")
	builds(t, s)
	runs(t, s, "m", "twice", []int{1}, 1, 2)
	for _, wrong := range []string{"use", "use no;", "fn f(): int = true;"} {
		set(t, s, "x", wrong)
		runs(t, s, "m", "twice", []int{1}, 1, 2)
		if len(s.Build()) != 1 {
			t.Errorf("of %q Build doesn't tell", wrong)
		}
		noImage("behind a Build that told something")
		is(t, "Remove", s.Remove("x"), api.OK)
		noImage("until there is another Build")
		builds(t, s)
		runs(t, s, "m", "twice", []int{1}, 1, 2)
	}
}

func TestP5ImageIsOfTheLastBuild(t *testing.T) {
	s := built(t, "m", twice, "a", main3)
	want := s.Image()
	set(t, s, "m", "?", "z", twice)
	is(t, "Remove", s.Remove("a"), api.OK)
	if got := s.Image(); got != want {
		t.Errorf("the image changed without a Build: %q, want %q", got, want)
	}
	runs(t, s, "a", "main", []int{3}, 7, 12)
	fails(t, s, "z", "twice", []int{3}, 7, api.ErrUnknown)
	set(t, s, "m", "pub fn twice(n: int): int = 2 * n + 1;")
	builds(t, s)
	fails(t, s, "a", "main", []int{3}, 7, api.ErrUnknown)
	runs(t, s, "m", "twice", []int{3}, 1, 7)
	runs(t, s, "z", "twice", []int{3}, 1, 6)
	is(t, "Remove", s.Remove("m"), api.OK)
	is(t, "Remove", s.Remove("z"), api.OK)
	builds(t, s)
	fails(t, s, "m", "twice", []int{3}, 1, api.ErrUnknown)
}

func TestP5ImageHangsOnTheTextsAlone(t *testing.T) {
	texts := []string{"m", twice, "a", main3, "c", "use a; use m; pub fn f(): int = main(2) + twice(g()); fn g(): int = 1;", "b", "", "d", "use d;"}
	want := built(t, texts...).Image()
	turned := New()
	for pair := range slices.Chunk(texts, 2) {
		builds(t, turned)
		set(t, turned, "q", "pub fn main(): bool = true;", pair[0], "pub fn twice(b: bool): int = 5;")
		turned.Build()
	}
	for i := len(texts) - 2; i >= 0; i -= 2 {
		set(t, turned, texts[i], texts[i+1])
		turned.Build()
	}
	is(t, "Remove", turned.Remove("q"), api.OK)
	builds(t, turned)
	if got := turned.Image(); got != want || got == "" {
		t.Errorf("the image is %q, want %q", got, want)
	}
	if got := built(t, append(texts[2:], "m", "pub fn twice(n: int): int = n * n;")...).Image(); got == want {
		t.Error("one image of two programs")
	}
	if got := built(t).Image(); got == "" {
		t.Error("no image of no modules")
	}
	fails(t, built(t), "m", "f", nil, 1, api.ErrUnknown)
}

func TestP2RunAndImageChangeNothing(t *testing.T) {
	s := built(t, "m", twice, "a", main3)
	image := s.Image()
	for range 3 {
		fails(t, s, "a", "main", []int{3}, 6, api.ErrFuel)
		fails(t, s, "a", "main", []int{200}, 1000, api.ErrDepth)
		fails(t, s, "a", "none", nil, 6, api.ErrUnknown)
		runs(t, s, "a", "main", []int{3}, 7, 12)
		if got := s.Image(); got != image {
			t.Errorf("the image changed: %q, want %q", got, image)
		}
	}
	builds(t, s)
	if got := s.Image(); got != image {
		t.Errorf("the image of another Build: %q, want %q", got, image)
	}
}

func TestP2ArgsAreNotWrittenInto(t *testing.T) {
	s := built(t, "m", "pub fn f(a: int): int = let a = a + 1 in let b = a * 2 in g(b, a); fn g(a: int, b: int): int = let c = 7 in a + b + c;")
	args := []int{1, 77, 78, 79}
	runs(t, s, "m", "f", args[:1], 2, 13)
	if !slices.Equal(args, []int{1, 77, 78, 79}) {
		t.Errorf("args are written into: %v", args)
	}
}

func TestP2ImagesAreApart(t *testing.T) {
	s, other := built(t, "m", twice), built(t, "m", "pub fn twice(n: int): int = 3 * n;")
	runs(t, s, "m", "twice", []int{1}, 1, 2)
	runs(t, other, "m", "twice", []int{1}, 1, 3)
	set(t, other, "m", "?")
	other.Build()
	runs(t, s, "m", "twice", []int{1}, 1, 2)
	fails(t, New(), "m", "twice", []int{1}, 1, api.ErrBuild)
}

// The greatest texts: brackets, lets, args and signs as deep and as many as can be.
func TestP1GreatPrograms(t *testing.T) {
	for _, c := range []struct {
		body string
		want int
	}{
		{strings.Repeat("(", 285) + "1" + strings.Repeat(")", 285), 1},
		{strings.Repeat("-", 571) + "1", -1},
		{strings.Repeat("1+", 285) + "1", 286},
		{strings.Repeat("let x=1in ", 57) + "x", 1},
		{"1" + strings.Repeat("+(1", 140) + strings.Repeat(")", 140), 141},
		{strings.Repeat("if true then ", 28) + "1" + strings.Repeat(" else 2", 28), 1},
		{strings.Repeat("g(", 190) + "1" + strings.Repeat(")", 190), 191},
	} {
		s := built(t, "m", "use g;pub fn f():int="+c.body+";", "g", "pub fn g(n:int):int=n+1;")
		runs(t, s, "m", "f", nil, 191, c.want)
		if s.Image() == "" {
			t.Errorf("no image of %s", c.body)
		}
	}
	s := built(t, "m", "pub fn f():int=f()"+strings.Repeat("+f()", 140)+";")
	fails(t, s, "m", "f", nil, api.MaxFuel, api.ErrDepth)
	s = built(t, "m", "pub fn f(n:int):int=if n<1 then 1 else f(n-1)"+strings.Repeat("+f(n-1)", 70)+";")
	fails(t, s, "m", "f", []int{90}, api.MaxFuel, api.ErrFuel)
}
