// Package names finds the functions that a module's calls mean, and writes down where it looked.
package names

import (
	"cmp"
	"slices"

	"symcut/api"
	"symcut/syntax"
)

// View is what a module sees: its own functions, and what its imports export.
type View struct {
	Name    string
	Module  *syntax.Module
	Imports []*syntax.Module // in the order of the module's own; nil: it has no interface
	looked  []api.Use
}

// Find gives the function that a call of that name means, and the name of the
// module that has it; or nil. What it saw in imports on its way is written down,
// as the answer would be another one if that changed.
func (v *View) Find(name string) (string, *syntax.Function) {
	if f := v.Module.Own(name); f != nil {
		return v.Name, f
	}
	for i := range v.Imports {
		v.looked = append(v.looked, v.use(i, name))
		if f := exported(v.Imports[i], name); f != nil {
			return v.Module.Imports[i].Name, f
		}
	}
	return "", nil
}

// use is an entry: what is seen of a name in an import.
func (v *View) use(i int, name string) api.Use {
	return api.Use{Module: v.Module.Imports[i].Name, Name: name, Seen: Seen(v.Imports[i], name)}
}

// Uses gives what was looked up so far, and the imports themselves, by rising
// modules, then names, each once.
func (v *View) Uses() []api.Use {
	all := slices.Clone(v.looked)
	for i := range v.Imports {
		all = append(all, v.use(i, ""))
	}
	slices.SortFunc(all, func(a, b api.Use) int {
		return cmp.Or(cmp.Compare(a.Module, b.Module), cmp.Compare(a.Name, b.Name))
	})
	// Cloned again: what is kept of it would else have room for an entry of every call.
	return slices.Clone(slices.Compact(all))
}

// Seen tells what is seen of a name in a module, or of its interface, if the name
// is ""; the module is nil, if it has none.
func Seen(m *syntax.Module, name string) string {
	if m != nil && name == "" {
		return "interface"
	}
	if f := exported(m, name); f != nil {
		return f.Signature()
	}
	return ""
}

func exported(m *syntax.Module, name string) *syntax.Function {
	if m == nil {
		return nil
	}
	return m.Exported(name)
}
