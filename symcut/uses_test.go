package symcut

import (
	"slices"
	"strings"
	"testing"

	"symcut/api"
)

// compiled holds Compiled against names with blanks between.
func compiled(t *testing.T, s *Store, want string) {
	t.Helper()
	if got := s.Compiled(); !slices.Equal(got, strings.Fields(want)) {
		t.Errorf("Compiled: %v, want %s", got, want)
	}
}

// entries writes a use list as module.name=seen, with blanks between.
func entries(l []api.Use) string {
	var out []string
	for _, u := range l {
		out = append(out, u.Module+"."+u.Name+"="+u.Seen)
	}
	return strings.Join(out, " ")
}

func uses(t *testing.T, s *Store, module, want string) {
	t.Helper()
	if l, e := s.Uses(module); entries(l) != want || e != api.OK {
		t.Errorf("Uses(%s): %s, %d, want %s", module, entries(l), e, want)
	}
}

func noObject(t *testing.T, s *Store, module string) {
	t.Helper()
	if l, e := s.Uses(module); len(l) != 0 || e != api.ErrUnknown {
		t.Errorf("Uses(%s): %v, %d, want error %d", module, l, e, api.ErrUnknown)
	}
}

// edit is a module's new text, what Build then tells, and what it compiles.
type edit struct {
	module, text string
	compiled     string
	wrong        []api.Diagnostic
}

func follow(t *testing.T, s *Store, edits []edit) {
	t.Helper()
	for _, e := range edits {
		set(t, s, e.module, e.text)
		builds(t, s, e.wrong...)
		compiled(t, s, e.compiled)
		if t.Failed() {
			t.Fatalf("behind %s: %q", e.module, e.text)
		}
	}
}

func wrong(module string, code api.Errno, place int) []api.Diagnostic {
	return []api.Diagnostic{{Module: module, Code: code, Place: place}}
}

func TestP6Examples(t *testing.T) {
	s := stored(t, "m", twice, "a", main3)
	compiled(t, s, "")
	noObject(t, s, "a")
	builds(t, s)
	compiled(t, s, "a m")
	uses(t, s, "a", "m.=interface m.twice=int:int")
	uses(t, s, "m", "")
	follow(t, s, []edit{
		{"m", "pub fn twice(n: int): int = 2 * n; pub fn other(): bool = true;", "m", nil},
		{"m", "pub fn twice(n: bool): int = 1;", "a m", wrong("a", api.ErrType, 61)},
	})
	noObject(t, s, "a")
	uses(t, s, "m", "")
}

func TestP6UseLists(t *testing.T) {
	s := stored(t,
		"b", "pub fn f(x: int): int = x; fn g(): int = 1; pub fn v(): bool = true; pub fn w(): int = 3;",
		"a10", "pub fn g(): int = 2; pub fn h(a: bool, b: int, c: bool): bool = a; pub fn f(b: bool): bool = b;",
		"aa", "pub fn g(): bool = true; pub fn k(b: bool): bool = b;",
		"a2", "")
	for _, c := range []struct{ text, want string }{
		{"", ""},
		{"fn f(): int = f() + g(); fn g(): int = 1;", ""},
		{"use b;", "b.=interface"},
		{"use b; use aa; use a2; use a10;", "a10.=interface a2.=interface aa.=interface b.=interface"},
		{"use b; fn x(): int = f(1);", "b.=interface b.f=int:int"},
		{"use b; use a10; fn x(): int = f(1);", "a10.=interface b.=interface b.f=int:int"},
		{"use a10; use b; fn x(): bool = f(true);", "a10.=interface a10.f=bool:bool b.=interface"},
		{"use b; use a2; use a10; use aa; fn x(): int = g();", "a10.=interface a10.g=:int a2.=interface a2.g= aa.=interface b.=interface b.g="},
		{"use aa; use b; fn x(): bool = let y = f(1) in k(v()) ;", "aa.=interface aa.f= aa.k=bool:bool aa.v= b.=interface b.f=int:int b.v=:bool"},
		{"use b; use a10; fn x(): bool = h(v(), f(f(1)), v());", "a10.=interface a10.h=bool,int,bool:bool b.=interface b.f=int:int b.h= b.v=:bool"},
		// The module's own are not looked up, though imports export them; nor are variables.
		{"use b; fn x(): int = f() + 1; fn f(): int = 1;", "b.=interface"},
		{"use b; fn x(f: int): int = let v = f in v;", "b.=interface"},
		{"use b; fn x(f: int): int = f(f);", "b.=interface b.f=int:int"},
		// It imports itself.
		{"use z;", "z.=interface"},
		{"use z; use b; pub fn x(): int = f(1) + x();", "b.=interface b.f=int:int z.=interface z.f="},
		{"use b; use z; pub fn x(): int = f(1) + x();", "b.=interface b.f=int:int z.=interface"},
	} {
		set(t, s, "z", c.text)
		builds(t, s)
		uses(t, s, "z", c.want)
		if t.Failed() {
			t.Fatalf("of %q", c.text)
		}
	}
}

// A call is looked up wherever it stands.
func TestP6EveryPart(t *testing.T) {
	s := stored(t, "b", "pub fn i(): int = 1; pub fn t(): bool = true; pub fn two(a: int, b: int): int = a;", "z", "")
	for _, c := range [][2]string{
		{"int = i()", "i=:int"}, {"int = (i())", "i=:int"}, {"int = -i()", "i=:int"}, {"bool = !t()", "t=:bool"},
		{"int = i() + 1", "i=:int"}, {"int = 1 - i()", "i=:int"}, {"int = i() * 1", "i=:int"}, {"int = 1 / i()", "i=:int"},
		{"bool = i() < 1", "i=:int"}, {"bool = 1 < i()", "i=:int"}, {"bool = i() == 1", "i=:int"}, {"bool = 1 == i()", "i=:int"},
		{"int = if t() then 1 else 2", "t=:bool"}, {"int = if true then i() else 2", "i=:int"}, {"int = if true then 1 else i()", "i=:int"},
		{"int = let x = i() in 1", "i=:int"}, {"int = let x = 1 in i()", "i=:int"},
		{"int = own(i(), 1)", "i=:int"}, {"int = own(1, i())", "i=:int"},
		{"int = two(1, 1)", "two=int,int:int"}, {"int = own(two(2, 2), two(3, 3))", "two=int,int:int"},
	} {
		for _, text := range []string{
			"use b; fn x(): " + c[0] + "; fn own(a: int, b: int): int = 0;",
			"use b; fn own(a: int, b: int): int = 0; pub fn w(): int = 1; fn x(): " + c[0] + ";",
		} {
			set(t, s, "z", text)
			builds(t, s)
			uses(t, s, "z", "b.=interface b."+c[1])
			if t.Failed() {
				t.Fatalf("of %q", text)
			}
		}
	}
}

func TestP6UsesWrongInputs(t *testing.T) {
	s := built(t, "a", "use b;", "b", "")
	for _, name := range []string{"", "c", "A", "fn", "a ", "a.b", "interface", strings.Repeat("a", 1<<20)} {
		noObject(t, s, name)
	}
	noObject(t, New(), "")
	noObject(t, New(), "a")
	builds(t, s)
	compiled(t, s, "")
}

// An object is there, with what it has seen, until a Build or Remove takes it away.
func TestP6BetweenBuilds(t *testing.T) {
	s := built(t, "m", twice, "a", main3)
	seen := "m.=interface m.twice=int:int"
	set(t, s, "a", "?", "m", "pub fn twice(): int = 1;", "n", "")
	uses(t, s, "a", seen)
	noObject(t, s, "n")
	compiled(t, s, "a m")
	is(t, "Remove", s.Remove("m"), api.OK)
	noObject(t, s, "m")
	uses(t, s, "a", seen)
	compiled(t, s, "a m")
	set(t, s, "m", twice)
	noObject(t, s, "m")
	builds(t, s, wrong("a", api.ErrSyntax, 0)...)
	compiled(t, s, "a m n")
	noObject(t, s, "a")
	is(t, "Remove", s.Remove("a"), api.OK)
	compiled(t, s, "a m n")
	builds(t, s)
	compiled(t, s, "")
}

func TestP4TheTextOfTheObject(t *testing.T) {
	s := built(t, "m", twice, "a", main3)
	follow(t, s, []edit{
		{"a", main3, "", nil},
		{"a", main3 + " ", "a", nil},
		{"a", main3, "a", nil},
	})
	set(t, s, "a", "?", "m", "", "a", main3, "m", twice)
	builds(t, s)
	compiled(t, s, "") // it was changed and changed back
	set(t, s, "a", "")
	builds(t, s)
	compiled(t, s, "a")
	set(t, s, "b", "", "a", main3)
	builds(t, s)
	compiled(t, s, "a b")
}

func TestP4WrongModulesHaveNoObject(t *testing.T) {
	for _, c := range []struct {
		text string
		code api.Errno
		at   int
	}{
		{"fn", api.ErrSyntax, 2}, {"use m; use m;", api.ErrTwice, 11}, {"use no;", api.ErrImport, 4}, {"use m; fn f(): int = x;", api.ErrUnknown, 21},
		{"use m; fn f(): int = none();", api.ErrUnknown, 21}, {"use m; fn f(): int = twice();", api.ErrArity, 21}, {"use m; fn f(): bool = twice(1);", api.ErrType, 22},
	} {
		s := built(t, "m", twice, "a", main3)
		for range 2 {
			follow(t, s, []edit{{"a", c.text, "a", wrong("a", c.code, c.at)}})
			noObject(t, s, "a")
			uses(t, s, "m", "")
		}
		follow(t, s, []edit{{"a", main3, "a", nil}, {"a", main3, "", nil}})
		uses(t, s, "a", "m.=interface m.twice=int:int")
	}
}

// Of two imports the first is asked first, and what it has not is written down.
func TestP7ANameThatComes(t *testing.T) {
	s := built(t, "a", "use b; use c; use d; pub fn f(): int = g(1);", "b", "", "c", "pub fn g(x: int): int = 2;", "d", "")
	uses(t, s, "a", "b.=interface b.g= c.=interface c.g=int:int d.=interface")
	follow(t, s, []edit{
		{"b", "fn g(x: int): int = 1;", "b", nil},
		{"b", "pub fn h(x: int): int = 1;", "b", nil},
		{"d", "pub fn g(x: int): int = 4;", "d", nil},
	})
	runs(t, s, "a", "f", nil, 2, 2)
	follow(t, s, []edit{{"b", "pub fn h(x: int): int = 1; pub fn g(x: int): int = 1;", "a b", nil}})
	runs(t, s, "a", "f", nil, 2, 1)
	uses(t, s, "a", "b.=interface b.g=int:int c.=interface d.=interface")
	follow(t, s, []edit{
		{"c", "pub fn g(): bool = true;", "c", nil},
		{"c", "", "c", nil},
		{"b", "", "a b", nil},
	})
	runs(t, s, "a", "f", nil, 2, 4)
	uses(t, s, "a", "b.=interface b.g= c.=interface c.g= d.=interface d.g=int:int")
	follow(t, s, []edit{
		{"c", "pub fn g(x: int): int = 3;", "a c", nil},
		{"b", "pub fn g(x: bool): int = 1;", "a b", wrong("a", api.ErrType, 41)},
		{"b", "", "a b", nil},
	})
	runs(t, s, "a", "f", nil, 2, 3)
}

func TestP7Signatures(t *testing.T) {
	const user = "use m; pub fn f(): int = let x = g() in 1;"
	s := built(t, "a", user, "m", "pub fn g(): int = 1;")
	follow(t, s, []edit{
		{"m", "pub fn g(): int = 2; fn h(): int = g();", "m", nil},
		{"m", "pub fn h(): int = g(); pub fn g(): int = h();", "m", nil},
		{"m", "pub fn g(): bool = true;", "a m", nil},
		{"m", "pub fn g(): int = 1;", "a m", nil},
		{"m", "pub fn g(x: int): int = 1;", "a m", wrong("a", api.ErrArity, 33)},
		{"m", "pub fn g(): int = 1;", "a m", nil},
		{"m", "fn g(): int = 1;", "a m", wrong("a", api.ErrUnknown, 33)},
		{"m", "pub fn g(): int = 1;", "a m", nil},
	})
	set(t, s, "m", "pub fn g(x: int): int = 1;", "m", "pub fn g(): int = 5;")
	builds(t, s)
	compiled(t, s, "m") // it came back ahead of the Build
	s = built(t, "a", "use m; pub fn f(): int = g(1, true);", "m", "pub fn g(x: int, y: bool): int = x;")
	follow(t, s, []edit{
		{"m", "pub fn g(other: int, names: bool): int = 1;", "m", nil},
		{"m", "pub fn g(x: int, y: bool, z: int): int = x;", "a m", wrong("a", api.ErrArity, 25)},
		{"m", "pub fn g(y: bool, x: int): int = x;", "a m", wrong("a", api.ErrType, 27)},
		{"m", "pub fn g(x: int, y: bool): bool = y;", "a m", wrong("a", api.ErrType, 25)},
		{"m", "pub fn g(x: int, y: bool): int = 7;", "a m", nil},
	})
	runs(t, s, "a", "f", nil, 2, 7)
}

func TestP7Imports(t *testing.T) {
	const user = "use m; pub fn f(): int = 1;" // it looks up no name
	s := stored(t, "a", user)
	noInterface := wrong("a", api.ErrImport, 4)
	builds(t, s, noInterface...)
	compiled(t, s, "a")
	follow(t, s, []edit{
		{"m", "", "a m", nil},
		{"m", "pub fn g(): int = 1;", "m", nil},
		{"m", "pub fn f(): bool = true;", "m", nil},
		{"m", "pub fn g(): int = true;", "m", wrong("m", api.ErrType, 18)}, // it has an interface all the same
		{"m", "use no;", "m", wrong("m", api.ErrImport, 4)},
		{"m", "?", "a m", append(noInterface, wrong("m", api.ErrSyntax, 0)...)},
		{"m", "use no;", "a m", wrong("m", api.ErrImport, 4)},
		{"m", "", "m", nil},
	})
	is(t, "Remove", s.Remove("m"), api.OK)
	builds(t, s, noInterface...)
	compiled(t, s, "a")
	noObject(t, s, "a")
	builds(t, s, noInterface...)
	compiled(t, s, "a")
	follow(t, s, []edit{{"m", "", "a m", nil}, {"a", "pub fn f(): int = 1;", "a", nil}})
	is(t, "Remove", s.Remove("m"), api.OK)
	builds(t, s)
	compiled(t, s, "")
	follow(t, s, []edit{{"a", "use a; use a;", "a", wrong("a", api.ErrTwice, 11)}, {"a", "use a;", "a", nil}, {"a", "use a;", "", nil}})
}

func TestP7RemovedAndSetAgain(t *testing.T) {
	s := built(t, "m", twice, "a", main3)
	is(t, "Remove", s.Remove("m"), api.OK)
	set(t, s, "m", twice)
	builds(t, s)
	compiled(t, s, "m") // its object went with it, but a sees the same
	is(t, "Remove", s.Remove("a"), api.OK)
	set(t, s, "a", main3)
	builds(t, s)
	compiled(t, s, "a")
	is(t, "Remove", s.Remove("m"), api.OK)
	builds(t, s, wrong("a", api.ErrImport, 4)...)
	compiled(t, s, "a")
	follow(t, s, []edit{{"m", twice, "a m", nil}, {"m", twice, "", nil}})
	runs(t, s, "a", "main", []int{3}, 7, 12)
}

func TestP7Rings(t *testing.T) {
	const even = "use odd; pub fn even(n: int): bool = if n == 0 then true else odd(n - 1);"
	s := built(t, "even", even, "odd", "use even; use odd; pub fn odd(n: int): bool = if n == 0 then false else even(n - 1);")
	uses(t, s, "even", "odd.=interface odd.odd=int:bool")
	uses(t, s, "odd", "even.=interface even.even=int:bool odd.=interface")
	follow(t, s, []edit{
		{"even", even + " pub fn odd(): int = 0;", "even", wrong("even", api.ErrArity, 62)},
		{"even", even, "even", nil},
		{"even", "use even; " + even, "even", nil},
		{"even", "pub fn even(n: int): bool = n - n / 2 * 2 == 0;", "even", nil},
		{"even", "pub fn even(n: bool): bool = n;", "even odd", wrong("odd", api.ErrType, 77)},
		{"even", even, "even odd", nil},
	})
	runs(t, s, "odd", "odd", []int{7}, 8, 1)
	uses(t, s, "even", "odd.=interface odd.odd=int:bool")
}

// What a module doesn't look up itself is no use of its, though its imports do.
func TestP7UsesAreNotHandedOn(t *testing.T) {
	s := built(t, "a", "use b; pub fn f(): int = g();", "b", "use c; pub fn g(): int = let x = h() in 2;", "c", "pub fn h(): int = 3;")
	follow(t, s, []edit{
		{"c", "pub fn h(): bool = true;", "b c", nil},
		{"c", "pub fn h(x: int): bool = true;", "b c", wrong("b", api.ErrArity, 33)},
		{"c", "?", "b c", append(wrong("b", api.ErrImport, 4), wrong("c", api.ErrSyntax, 0)...)},
		{"b", "pub fn g(): int = 9;", "b c", wrong("c", api.ErrSyntax, 0)},
		{"c", "pub fn g(): int = 3;", "c", nil},
	})
	runs(t, s, "a", "f", nil, 2, 9)
}

func TestP1WrongCallsKeepObjects(t *testing.T) {
	s := built(t, "m", twice, "a", main3)
	is(t, "Set", s.Set("m", strings.Repeat(" ", api.MaxText+1)), api.ErrLimit)
	is(t, "Set", s.Set("M", ""), api.ErrName)
	is(t, "Remove", s.Remove("b"), api.ErrUnknown)
	uses(t, s, "a", "m.=interface m.twice=int:int")
	compiled(t, s, "a m")
	builds(t, s)
	compiled(t, s, "")
}

func TestP2CompiledAndUsesChangeNothing(t *testing.T) {
	s := built(t, "m", twice, "a", main3)
	image := s.Image()
	for range 3 {
		compiled(t, s, "a m")
		uses(t, s, "a", "m.=interface m.twice=int:int")
		noObject(t, s, "b")
		runs(t, s, "a", "main", []int{3}, 7, 12)
	}
	if got := s.Image(); got != image {
		t.Errorf("the image changed: %q, want %q", got, image)
	}
	builds(t, s)
	compiled(t, s, "")
}

// fill writes over a list, its spare room too.
func fill[T any](l []T, with T) {
	l = l[:cap(l)]
	for i := range l {
		l[i] = with
	}
}

func TestP2CompiledAndUsesAreTheCallers(t *testing.T) {
	s := built(t, "m", twice, "b", "", "a", "use m; use b;"+main3[len("use m;"):])
	const seen = "b.=interface m.=interface m.twice=int:int"
	first, second := s.Compiled(), s.Compiled()
	fill(first, "mine")
	if !slices.Equal(second, []string{"a", "b", "m"}) {
		t.Errorf("a list changed with another: %v", second)
	}
	compiled(t, s, "a b m")
	one, _ := s.Uses("a")
	two, _ := s.Uses("a")
	fill(one, api.Use{Module: "mine"})
	if entries(two) != seen {
		t.Errorf("a list changed with another: %v", two)
	}
	uses(t, s, "a", seen)
	builds(t, s)
	compiled(t, s, "")
	uses(t, s, "a", seen)
	set(t, s, "b", " ")
	builds(t, s)
	if entries(two) != seen || !slices.Equal(second, []string{"a", "b", "m"}) {
		t.Errorf("lists changed with the store: %v, %v", two, second)
	}
}

func TestP2ObjectsAreApart(t *testing.T) {
	s, other := built(t, "m", twice, "a", main3), New()
	compiled(t, other, "")
	noObject(t, other, "a")
	set(t, other, "a", "", "m", twice)
	builds(t, other)
	uses(t, other, "a", "")
	uses(t, s, "a", "m.=interface m.twice=int:int")
	is(t, "Remove", other.Remove("m"), api.OK)
	builds(t, s)
	compiled(t, s, "")
	compiled(t, other, "a m")
}
