// Package names finds the functions that a module's calls mean.
package names

import "symcut/syntax"

// View is what a module sees: its own functions, and what its imports export.
type View struct {
	Name    string
	Module  *syntax.Module
	Imports []*syntax.Module // in the order of the module's own; nil: it has no interface
}

// Find gives the function that a call of that name means, and the name of the
// module that has it; or nil.
func (v *View) Find(name string) (string, *syntax.Function) {
	if f := v.Module.Own(name); f != nil {
		return v.Name, f
	}
	for i, m := range v.Imports {
		if m == nil {
			continue
		}
		if f := m.Exported(name); f != nil {
			return v.Module.Imports[i].Name, f
		}
	}
	return "", nil
}
