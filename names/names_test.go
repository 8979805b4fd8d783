package names

import (
	"testing"

	"symcut/syntax"
)

func parse(t *testing.T, text string) *syntax.Module {
	t.Helper()
	m, place := syntax.Parse(text)
	if m == nil {
		t.Fatalf("%q has not the form at %d", text, place)
	}
	return m
}

func TestFind(t *testing.T) {
	m := parse(t, "use gone; use a; use b; use m; fn own(): int = 1; fn own(): bool = true; fn a(): int = 1;")
	v := &View{Name: "m", Module: m, Imports: []*syntax.Module{
		nil,
		parse(t, "fn hid(): int = 1; pub fn one(): int = 1; pub fn own(): bool = true;"),
		parse(t, "pub fn hid(): bool = true; pub fn one(): bool = true; pub fn two(): int = 1; pub fn two(): bool = true;"),
		m,
	}}
	for _, c := range []struct{ name, module, signature string }{
		{"own", "m", ":int"},
		{"a", "m", ":int"},
		{"one", "a", ":int"},
		{"hid", "b", ":bool"},
		{"two", "b", ":int"},
	} {
		module, f := v.Find(c.name)
		if f == nil || module != c.module || f.Name != c.name || f.Signature() != c.signature {
			t.Errorf("Find(%s) = %s, %v, want %s, %s", c.name, module, f, c.module, c.signature)
		}
	}
	for _, name := range []string{"", "none", "gone", "b"} {
		if module, f := v.Find(name); module != "" || f != nil {
			t.Errorf("Find(%s) = %s, %v, want nothing", name, module, f)
		}
	}
}
