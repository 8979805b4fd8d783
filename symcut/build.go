package symcut

import (
	"slices"

	"symcut/api"
	"symcut/check"
	"symcut/code"
	"symcut/image"
	"symcut/names"
	"symcut/syntax"
)

// form: a text's tree; or nil, and the place where it has not the form.
type form struct {
	tree  *syntax.Module
	place int
}

// parse reads every module ahead of compiling one, as they may import one another in a ring.
func (s *Store) parse() map[string]form {
	forms := map[string]form{}
	for name, k := range s.modules {
		tree, place := syntax.Parse(k.text)
		forms[name] = form{tree: tree, place: place}
	}
	return forms
}

// view gives what a module sees whose text has the form.
func view(forms map[string]form, name string) *names.View {
	v := &names.View{Name: name, Module: forms[name].tree}
	for _, line := range v.Module.Imports {
		v.Imports = append(v.Imports, forms[line.Name].tree)
	}
	return v
}

// current tells whether a module has an object that compiling it would give again.
func (s *Store) current(forms map[string]form, name string) bool {
	o, ok := s.objects[name]
	return ok && o.text == s.modules[name].text && hold(forms, o.uses)
}

// hold tells whether the same would be seen now.
func hold(forms map[string]form, uses []api.Use) bool {
	return !slices.ContainsFunc(uses, func(u api.Use) bool {
		return names.Seen(forms[u.Module].tree, u.Name) != u.Seen
	})
}

// compile tells what is wrong with a module, and where. If nothing is, its object is made anew.
func (s *Store) compile(forms map[string]form, name string) (api.Errno, int) {
	s.compiled[name] = struct{}{}
	delete(s.objects, name)
	if f := forms[name]; f.tree == nil {
		return api.ErrSyntax, f.place
	}
	v := view(forms, name)
	wrong, place := check.Module(v)
	if wrong == api.OK {
		s.objects[name] = object{text: s.modules[name].text, code: code.Compile(v), uses: v.Uses()}
	}
	return wrong, place
}

// link makes the image of modules each of which has an object.
func (s *Store) link(modules []string) *image.Image {
	var objects []code.Object
	for _, name := range modules {
		objects = append(objects, s.objects[name].code)
	}
	return image.Link(objects)
}
