package symcut

import (
	"symcut/api"
	"symcut/check"
	"symcut/syntax"
)

// form: a text's tree; or nil, and the place where it has not the form.
type form struct {
	tree  *syntax.Module
	place int
}

// parse reads every module ahead of checking one, as they may import one another in a ring.
func (s *Store) parse() map[string]form {
	forms := map[string]form{}
	for name, k := range s.modules {
		tree, place := syntax.Parse(k.text)
		forms[name] = form{tree: tree, place: place}
	}
	return forms
}

// diagnose tells what is wrong with a module, and where.
func diagnose(forms map[string]form, name string) (api.Errno, int) {
	f := forms[name]
	if f.tree == nil {
		return api.ErrSyntax, f.place
	}
	var imports []*syntax.Module
	for _, line := range f.tree.Imports {
		imports = append(imports, forms[line.Name].tree)
	}
	return check.Module(f.tree, imports)
}
