package symcut

import (
	"symcut/api"
	"symcut/check"
	"symcut/code"
	"symcut/image"
	"symcut/names"
	"symcut/syntax"
)

// form: a text's tree; or nil, and the place where it has not the form.
type form struct {
	tree  *syntax.Module
	place int
}

// parse reads every module ahead of checking one, as they may import one another in a ring.
func (s *Store) parse() map[string]form {
	forms := map[string]form{}
	for name, k := range s.modules {
		tree, place := syntax.Parse(k.text)
		forms[name] = form{tree: tree, place: place}
	}
	return forms
}

// view gives what a module sees whose text has the form.
func view(forms map[string]form, name string) *names.View {
	v := &names.View{Name: name, Module: forms[name].tree}
	for _, line := range v.Module.Imports {
		v.Imports = append(v.Imports, forms[line.Name].tree)
	}
	return v
}

// diagnose tells what is wrong with a module, and where.
func diagnose(forms map[string]form, name string) (api.Errno, int) {
	if f := forms[name]; f.tree == nil {
		return api.ErrSyntax, f.place
	}
	return check.Module(view(forms, name))
}

// link makes the image of modules with none of which anything is wrong.
func link(forms map[string]form, modules []string) *image.Image {
	var objects []code.Object
	for _, name := range modules {
		objects = append(objects, code.Compile(view(forms, name)))
	}
	return image.Link(objects)
}
