package names

import (
	"slices"
	"testing"

	"symcut/api"
	"symcut/syntax"
)

func parse(t *testing.T, text string) *syntax.Module {
	t.Helper()
	m, place := syntax.Parse(text)
	if m == nil {
		t.Fatalf("%q has not the form at %d", text, place)
	}
	return m
}

func TestFind(t *testing.T) {
	m := parse(t, "use gone; use a; use b; use m; fn own(): int = 1; fn own(): bool = true; fn a(): int = 1;")
	v := &View{Name: "m", Module: m, Imports: []*syntax.Module{
		nil,
		parse(t, "fn hid(): int = 1; pub fn one(): int = 1; pub fn own(): bool = true;"),
		parse(t, "pub fn hid(): bool = true; pub fn one(): bool = true; pub fn two(): int = 1; pub fn two(): bool = true;"),
		m,
	}}
	for _, c := range []struct{ name, module, signature string }{
		{"own", "m", ":int"},
		{"a", "m", ":int"},
		{"one", "a", ":int"},
		{"hid", "b", ":bool"},
		{"two", "b", ":int"},
	} {
		module, f := v.Find(c.name)
		if f == nil || module != c.module || f.Name != c.name || f.Signature() != c.signature {
			t.Errorf("Find(%s) = %s, %v, want %s, %s", c.name, module, f, c.module, c.signature)
		}
	}
	for _, name := range []string{"", "none", "gone", "b"} {
		if module, f := v.Find(name); module != "" || f != nil {
			t.Errorf("Find(%s) = %s, %v, want nothing", name, module, f)
		}
	}
}

func TestUses(t *testing.T) {
	m := parse(t, "use gone; use b; use a; use m; fn own(): int = 1;")
	v := &View{Name: "m", Module: m, Imports: []*syntax.Module{
		nil,
		parse(t, "fn hid(): int = 1; pub fn one(x: int): bool = true; pub fn own(): bool = true;"),
		parse(t, "pub fn hid(): int = 1; pub fn one(): bool = true;"),
		m,
	}}
	imports := []api.Use{{Module: "a", Seen: "interface"}, {Module: "b", Seen: "interface"}, {Module: "gone"}, {Module: "m", Seen: "interface"}}
	if got := v.Uses(); !slices.Equal(got, imports) {
		t.Errorf("Uses, ahead of all lookups: %v, want %v", got, imports)
	}
	for _, name := range []string{"one", "own", "hid", "none", "one"} {
		v.Find(name)
	}
	want := []api.Use{
		{Module: "a", Seen: "interface"}, {Module: "a", Name: "hid", Seen: ":int"}, {Module: "a", Name: "none"},
		{Module: "b", Seen: "interface"}, {Module: "b", Name: "hid"}, {Module: "b", Name: "none"}, {Module: "b", Name: "one", Seen: "int:bool"},
		{Module: "gone"}, {Module: "gone", Name: "hid"}, {Module: "gone", Name: "none"}, {Module: "gone", Name: "one"},
		{Module: "m", Seen: "interface"}, {Module: "m", Name: "none"},
	}
	for range 2 {
		if got := v.Uses(); !slices.Equal(got, want) {
			t.Errorf("Uses: %v, want %v", got, want)
		}
	}
	if got := (&View{Name: "m", Module: parse(t, "")}).Uses(); got != nil {
		t.Errorf("Uses of no imports: %v", got)
	}
}

func TestSeen(t *testing.T) {
	m := parse(t, "fn hid(): int = 1; pub fn f(): int = 1; pub fn f(x: int): int = 1; pub fn g(a: bool, b: int, c: int): bool = a; fn h(): bool = true; pub fn h(): int = 1;")
	for name, want := range map[string]string{"": "interface", "f": ":int", "g": "bool,int,int:bool", "h": ":int", "hid": "", "none": ""} {
		if got := Seen(m, name); got != want {
			t.Errorf("Seen(%s) = %q, want %q", name, got, want)
		}
		if got := Seen(nil, name); got != "" {
			t.Errorf("Seen(%s) in no interface = %q", name, got)
		}
	}
	if got := Seen(parse(t, ""), ""); got != "interface" {
		t.Errorf("an empty interface is seen as %q", got)
	}
}
