package symcut

import (
	"slices"
	"strings"
	"testing"

	"symcut/api"
)

func is(t *testing.T, what string, got, want api.Errno) {
	t.Helper()
	if got != want {
		t.Errorf("%s: %d, want %d", what, got, want)
	}
}

// set gives modules their texts: names and texts by turns.
func set(t *testing.T, s *Store, modules ...string) {
	t.Helper()
	for pair := range slices.Chunk(modules, 2) {
		is(t, "Set "+pair[0], s.Set(pair[0], pair[1]), api.OK)
	}
}

func stored(t *testing.T, modules ...string) *Store {
	t.Helper()
	s := New()
	set(t, s, modules...)
	return s
}

func builds(t *testing.T, s *Store, want ...api.Diagnostic) {
	t.Helper()
	if got := s.Build(); !slices.Equal(got, want) {
		t.Errorf("Build: %v, want %v", got, want)
	}
}

func TestP3Names(t *testing.T) {
	s := New()
	for _, name := range []string{"", "A", "1", "1a", "a b", " a", "a\n", "abcdefghi", "a_", "\u00e9", "\x00", "a;", "use", "pub", "fn", "if", "then", "else", "let", "in", "true", "false", "int", "bool"} {
		is(t, "Set "+name, s.Set(name, ""), api.ErrName)
		is(t, "Remove "+name, s.Remove(name), api.ErrUnknown)
	}
	for _, name := range []string{"a", "z9", "abcdefgh", "a1234567", "useit", "fns", "ints", "trues"} {
		is(t, "Set "+name, s.Set(name, ""), api.OK)
	}
	builds(t, s)
}

func TestP3Limits(t *testing.T) {
	s := New()
	full, over := strings.Repeat(" ", api.MaxText), strings.Repeat(" ", api.MaxText+1)
	is(t, "a full text", s.Set("a", full), api.OK)
	is(t, "a text that is too long", s.Set("a", over), api.ErrLimit)
	is(t, "a text that is too long, of a new module", s.Set("b", over), api.ErrLimit)
	is(t, "it is not there", s.Remove("b"), api.ErrUnknown)
	is(t, "no name goes first", s.Set("B", over), api.ErrName)
	for _, name := range []string{"b", "c", "d", "e", "f", "g", "h"} {
		is(t, "Set "+name, s.Set(name, ""), api.OK)
	}
	is(t, "one module too many", s.Set("i", ""), api.ErrLimit)
	is(t, "it is not there", s.Remove("i"), api.ErrUnknown)
	is(t, "no name goes first", s.Set("if", ""), api.ErrName)
	is(t, "one that is there", s.Set("h", " "), api.OK)
	is(t, "Remove", s.Remove("c"), api.OK)
	is(t, "there is room again", s.Set("i", ""), api.OK)
	is(t, "but for one", s.Set("c", ""), api.ErrLimit)
}

func TestP3TheTextIsTheLastOne(t *testing.T) {
	s := stored(t, "a", "x")
	builds(t, s, api.Diagnostic{Module: "a", Code: api.ErrSyntax, Place: 0})
	set(t, s, "a", "use", "a", "use a; fn f(): int = true;")
	builds(t, s, api.Diagnostic{Module: "a", Code: api.ErrType, Place: 21})
	set(t, s, "a", "use a;")
	builds(t, s)
}

func TestP3Remove(t *testing.T) {
	s := stored(t, "a", "use b;", "b", "x")
	is(t, "Remove", s.Remove("b"), api.OK)
	is(t, "Remove again", s.Remove("b"), api.ErrUnknown)
	builds(t, s, api.Diagnostic{Module: "a", Code: api.ErrImport, Place: 4})
	is(t, "Remove", s.Remove("a"), api.OK)
	builds(t, s)
	set(t, s, "b", "", "a", "use b;")
	builds(t, s)
}

func TestP4RisingNames(t *testing.T) {
	s := stored(t, "b", "x", "a2", "use", "c", "fn f(): int = true;", "a10", "use b;", "d", "", "a", "use no;", "aa", "fn f(): int = f(1);")
	builds(t, s,
		api.Diagnostic{Module: "a", Code: api.ErrImport, Place: 4},
		api.Diagnostic{Module: "a10", Code: api.ErrImport, Place: 4},
		api.Diagnostic{Module: "a2", Code: api.ErrSyntax, Place: 3},
		api.Diagnostic{Module: "aa", Code: api.ErrArity, Place: 14},
		api.Diagnostic{Module: "b", Code: api.ErrSyntax, Place: 0},
		api.Diagnostic{Module: "c", Code: api.ErrType, Place: 14},
	)
}

func TestP4SyntaxGoesFirst(t *testing.T) {
	for _, c := range []struct {
		text  string
		place int
	}{
		{"use", 3},
		{"use ", 4},
		{"use no; fn f(): int = true; fn f(): int = x", 43},
		{"use no; use no; ? use", 16},
		{"fn f(): int = 1;\nuse a;", 17},
		{"fn f(): int = 1\t;", 15},
		{"fn f(): int = abcdefghi;", 14},
		{"fn f(): int = 1234567890;", 14},
		{"fn f(): bool = 1 < 2 < 3;", 21},
		{"fn f(): bool = 1 <= 2;", 18},
		{"fn f(): int == 1;", 12},
		{"fn f(): int = (if true then 1) else 2;", 29},
	} {
		s := stored(t, "m", c.text)
		builds(t, s, api.Diagnostic{Module: "m", Code: api.ErrSyntax, Place: c.place})
	}
}

func TestP4Examples(t *testing.T) {
	s := stored(t,
		"m", "pub fn twice(n: int): int = n + n;",
		"a", "use m; pub fn main(k: int): int = if k < 1 then 0 else twice(k) + main(k - 1);")
	builds(t, s)
	set(t, s, "m", "pub fn twice(n: int): int = 2 * n; pub fn other(): bool = true;")
	builds(t, s)
	set(t, s, "m", "pub fn twice(n: bool): int = 1;")
	builds(t, s, api.Diagnostic{Module: "a", Code: api.ErrType, Place: 61})
	s = stored(t, "m", "fn f(x: int): int = if x then y else true;")
	builds(t, s, api.Diagnostic{Module: "m", Code: api.ErrType, Place: 23})
}

func TestP4RingsOfImports(t *testing.T) {
	s := stored(t,
		"a", "use b; pub fn f(n: int): bool = if n == 0 then true else g(n - 1);",
		"b", "use c; use a; use b; pub fn g(n: int): bool = if n == 0 then false else f(n - 1);",
		"c", "use c; use b; pub fn h(): bool = g(1);")
	builds(t, s)
	set(t, s, "c", "pub fn f(b: bool): bool = b;")
	builds(t, s, api.Diagnostic{Module: "b", Code: api.ErrType, Place: 74})
}

// An interface hangs on the text's form alone, not on what else is wrong with it.
func TestP4Interfaces(t *testing.T) {
	s := stored(t,
		"a", "use b; fn f(): int = g();",
		"b", "fn g(): bool = 1; pub fn g(): int = true; pub fn g(): bool = true;")
	builds(t, s, api.Diagnostic{Module: "b", Code: api.ErrType, Place: 15})
	set(t, s, "b", "pub fn g(): int = 1; pub")
	builds(t, s, api.Diagnostic{Module: "a", Code: api.ErrImport, Place: 4}, api.Diagnostic{Module: "b", Code: api.ErrSyntax, Place: 24})
	set(t, s, "b", "fn g(): int = 1;")
	builds(t, s, api.Diagnostic{Module: "a", Code: api.ErrUnknown, Place: 21})
	set(t, s, "b", "pub fn g(x: int): int = 1;")
	builds(t, s, api.Diagnostic{Module: "a", Code: api.ErrArity, Place: 21})
	set(t, s, "b", "pub fn g(): bool = true;")
	builds(t, s, api.Diagnostic{Module: "a", Code: api.ErrType, Place: 21})
	set(t, s, "b", "pub fn g(): int = 1;")
	builds(t, s)
}

// With an error nothing is changed.
func TestP1ErrorsChangeNothing(t *testing.T) {
	s := stored(t, "a", "use b;", "b", "x")
	want := s.Build()
	is(t, "Set", s.Set("b", strings.Repeat("y", api.MaxText+1)), api.ErrLimit)
	is(t, "Set", s.Set("B", ""), api.ErrName)
	is(t, "Remove", s.Remove("c"), api.ErrUnknown)
	builds(t, s, want...)
}

// Texts of all kinds: each call ends, and what Build tells is within the text.
func TestP1EveryTextIsAnswered(t *testing.T) {
	base := "use a; pub fn f(x: int, y: bool): int = if y then let z = -x in f(z, !y) else (x) / 2;"
	texts := []string{strings.Repeat("(", api.MaxText), strings.Repeat("fn f(", 120), "fn f():int=" + strings.Repeat("-", 588) + "1"}
	for i := range len(base) {
		texts = append(texts, base[:i], base[i:], base[:i]+base[i+1:], base[i:]+base[:i])
		for _, b := range []byte{0, ' ', '(', ';', '9', 'q', 255} {
			texts = append(texts, base[:i]+string([]byte{b})+base[i+1:])
		}
	}
	s := stored(t, "b", "use a; fn g(): int = f(1, true);")
	for _, text := range texts {
		set(t, s, "a", text)
		for _, d := range s.Build() {
			if d.Module == "a" && (d.Code == api.OK || d.Place < 0 || d.Place > len(text)) {
				t.Errorf("of %q Build tells %v", text, d)
			}
		}
	}
}

func TestP1OddArguments(t *testing.T) {
	s := New()
	great := strings.Repeat("x", 1<<20)
	is(t, "Set", s.Set(great, great), api.ErrName)
	is(t, "Set", s.Set("a", great), api.ErrLimit)
	is(t, "Remove", s.Remove(great), api.ErrUnknown)
	s.Run(great, great, nil, -1)
	s.Uses(great)
	s.Compiled()
	s.Image()
	builds(t, s)
}

func TestP2StoresAreApart(t *testing.T) {
	s, other := stored(t, "a", "x"), stored(t, "b", "use a;")
	builds(t, s, api.Diagnostic{Module: "a", Code: api.ErrSyntax, Place: 0})
	builds(t, other, api.Diagnostic{Module: "b", Code: api.ErrImport, Place: 4})
	is(t, "Remove", other.Remove("a"), api.ErrUnknown)
	builds(t, New())
}

func TestP2ListsAreTheCallers(t *testing.T) {
	s := stored(t, "a", "x", "b", "y", "c", "z")
	want := s.Build()
	first, second := s.Build(), s.Build()
	for i := range first[:cap(first)] {
		first[:cap(first)][i] = api.Diagnostic{Module: "mine"}
	}
	if !slices.Equal(second, want) {
		t.Errorf("a list changed with another: %v", second)
	}
	builds(t, s, want...)
}
