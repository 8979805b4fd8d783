// Package symcut: modules that are compiled again just when what they looked up has changed: see DOC.md.
package symcut

import (
	"maps"
	"slices"
	"strings"

	"symcut/api"
	"symcut/code"
	"symcut/image"
	"symcut/machine"
	"symcut/syntax"
)

// Store: modules, their objects, the image.
type Store struct {
	modules  map[string]kept
	objects  map[string]object
	compiled map[string]struct{} // in the last Build, whether they are still there or not
	image    *image.Image        // of the last Build; nil, if there is none
}

// kept: what is kept of a module from Set on.
type kept struct {
	text string
}

// object: what is kept of a module with which nothing was wrong when it was compiled.
type object struct {
	text string
	code code.Object
	uses []api.Use
}

// New makes a store without modules.
func New() *Store {
	return &Store{modules: map[string]kept{}, objects: map[string]object{}, compiled: map[string]struct{}{}}
}

func (s *Store) has(module string) bool {
	_, ok := s.modules[module]
	return ok
}

// Set gives a module its text (P3).
func (s *Store) Set(module string, text string) api.Errno {
	if !syntax.IsName(module) {
		return api.ErrName
	}
	if len(text) > api.MaxText || !s.has(module) && len(s.modules) >= api.MaxModules {
		return api.ErrLimit
	}
	// Copies: a piece of a great string would keep all of that alive.
	s.modules[strings.Clone(module)] = kept{text: strings.Clone(text)}
	return api.OK
}

// Remove takes a module away (P3).
func (s *Store) Remove(module string) api.Errno {
	if !s.has(module) {
		return api.ErrUnknown
	}
	delete(s.modules, module)
	delete(s.objects, module)
	return api.OK
}

// Build compiles what must be, and links (P4).
func (s *Store) Build() []api.Diagnostic {
	forms := s.parse()
	modules := slices.Sorted(maps.Keys(forms))
	clear(s.compiled)
	var wrong []api.Diagnostic
	for _, name := range modules {
		if s.current(forms, name) {
			continue
		}
		if errno, place := s.compile(forms, name); errno != api.OK {
			wrong = append(wrong, api.Diagnostic{Module: name, Code: errno, Place: place})
		}
	}
	s.image = nil
	if len(wrong) == 0 {
		s.image = s.link(modules)
	}
	return wrong
}

// Run calls a function of the image (P5).
func (s *Store) Run(module string, function string, args []int, fuel int) (int, api.Errno) {
	if s.image == nil {
		return 0, api.ErrBuild
	}
	place := s.image.Exported(module, function)
	if place < 0 {
		return 0, api.ErrUnknown
	}
	params := s.image.Functions[place].Params
	if len(args) != len(params) {
		return 0, api.ErrArity
	}
	if !fit(args, params) || !within(fuel, 0, api.MaxFuel) {
		return 0, api.ErrRange
	}
	return machine.Run(s.image, place, args, fuel)
}

// fit tells whether each arg may be handed over for its parameter.
func fit(args []int, params []syntax.Type) bool {
	for i, p := range params {
		if p == syntax.Bool && !within(args[i], 0, 1) {
			return false
		}
	}
	return true
}

func within(n, low, high int) bool { return n == max(low, min(n, high)) }

// Compiled tells what was compiled in the last Build (P6).
func (s *Store) Compiled() []string { return slices.Sorted(maps.Keys(s.compiled)) }

// Uses tells what a module looked up (P6).
func (s *Store) Uses(module string) ([]api.Use, api.Errno) {
	o, ok := s.objects[module]
	if !ok {
		return nil, api.ErrUnknown
	}
	return slices.Clone(o.uses), api.OK
}

// Image tells the image (P5).
func (s *Store) Image() string {
	if s.image == nil {
		return ""
	}
	return s.image.Text()
}
