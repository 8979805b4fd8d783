package symcut

import (
	"maps"
	"math/rand"
	"slices"
	"strings"
	"testing"

	"symcut/api"
	"symcut/syntax"
)

// model says straight from the document, and from all texts at once, what a
// store keeps of its modules.
type model struct {
	texts   map[string]string
	objects map[string]modelled
}

type modelled struct {
	text string
	uses []api.Use
}

func (m *model) trees() map[string]*syntax.Module {
	trees := map[string]*syntax.Module{}
	for name, text := range m.texts {
		if tree, _ := syntax.Parse(text); tree != nil {
			trees[name] = tree
		}
	}
	return trees
}

// saw is what an entry of that module and name says, if it is written now.
func saw(trees map[string]*syntax.Module, module, name string) string {
	tree, there := trees[module]
	if !there {
		return ""
	}
	if name == "" {
		return "interface"
	}
	for _, f := range tree.Functions {
		if f.Public && f.Name == name {
			var types []string
			for _, p := range f.Params {
				types = append(types, p.Type.String())
			}
			return strings.Join(types, ",") + ":" + f.Result.String()
		}
	}
	return ""
}

func calls(e *syntax.Expr, into map[string]int) {
	if e.Kind == syntax.Call {
		into[e.Name]++
	}
	for i := range e.Parts {
		calls(&e.Parts[i], into)
	}
}

// lookups is the use list of a module with which nothing is wrong.
func lookups(trees map[string]*syntax.Module, module string) []api.Use {
	called := map[string]int{}
	tree := trees[module]
	for i := range tree.Functions {
		calls(&tree.Functions[i].Body, called)
	}
	for _, f := range tree.Functions {
		delete(called, f.Name)
	}
	found := map[api.Use]int{}
	for _, line := range tree.Imports {
		found[api.Use{Module: line.Name, Seen: "interface"}]++
	}
	for name := range called {
		for _, line := range tree.Imports {
			seen := saw(trees, line.Name, name)
			found[api.Use{Module: line.Name, Name: name, Seen: seen}]++
			if seen != "" {
				break
			}
		}
	}
	return slices.SortedFunc(maps.Keys(found), func(a, b api.Use) int {
		return strings.Compare(a.Module+" "+a.Name, b.Module+" "+b.Name)
	})
}

// build tells what must be compiled, and what of that just because of a use
// that holds no longer; and keeps the objects of what is not wrong.
func (m *model) build(wrong []api.Diagnostic) (all, byUse []string) {
	trees := m.trees()
	for name, text := range m.texts {
		o, there := m.objects[name]
		same := there && o.text == text
		holds := !slices.ContainsFunc(o.uses, func(u api.Use) bool { return saw(trees, u.Module, u.Name) != u.Seen })
		if same && holds {
			continue
		}
		all = append(all, name)
		if same {
			byUse = append(byUse, name)
		}
		delete(m.objects, name)
		if !slices.ContainsFunc(wrong, func(d api.Diagnostic) bool { return d.Module == name }) {
			m.objects[name] = modelled{text, lookups(trees, name)}
		}
	}
	slices.Sort(all)
	return all, byUse
}

// editor draws edits, behind which nothing is wrong with the module itself, but
// maybe with those that import it.
type editor struct {
	drawer
	texts map[string]string
	old   map[string][]string
}

var editorModules = []string{"a", "aa", "b", "c"}

func newEditor(r *rand.Rand) *editor {
	d := &editor{drawer: drawer{r: r, trees: map[string]*syntax.Module{}}, texts: map[string]string{}, old: map[string][]string{}}
	for _, module := range editorModules {
		d.begin(module)
	}
	return d
}

// begin gives a module that is not there what it may have when it comes.
func (d *editor) begin(module string) {
	tree := &syntax.Module{}
	for _, i := range d.r.Perm(len(editorModules))[:3] {
		tree.Imports = append(tree.Imports, syntax.Import{Name: editorModules[i]})
	}
	d.trees[module] = tree
}

// function gives a head without a body.
func (d *editor) function(name string) syntax.Function {
	f := syntax.Function{Name: name, Public: d.r.Intn(4) > 0, Result: d.typ()}
	for i := range d.r.Intn(3) {
		f.Params = append(f.Params, syntax.Param{Name: string("xyz"[i]), Type: d.typ()})
	}
	return f
}

// changeFunction lets one function come, go, be changed, or be exported no more or now.
func (d *editor) changeFunction(module string) {
	tree := d.trees[module]
	name := string("fghkl"[d.r.Intn(5)])
	i := slices.IndexFunc(tree.Functions, func(f syntax.Function) bool { return f.Name == name })
	switch {
	case i < 0:
		tree.Functions = slices.Insert(tree.Functions, d.r.Intn(len(tree.Functions)+1), d.function(name))
	case d.r.Intn(4) == 0:
		tree.Functions = slices.Delete(tree.Functions, i, i+1)
	case d.r.Intn(3) == 0:
		tree.Functions[i].Public = !tree.Functions[i].Public
	default:
		tree.Functions[i] = d.function(name)
	}
}

// changeImport lets one import come, go, or be the first.
func (d *editor) changeImport(module string) {
	tree := d.trees[module]
	line := syntax.Import{Name: editorModules[d.r.Intn(len(editorModules))]}
	i := slices.IndexFunc(tree.Imports, func(l syntax.Import) bool { return l.Name == line.Name })
	switch {
	case i < 0:
		tree.Imports = slices.Insert(tree.Imports, d.r.Intn(len(tree.Imports)+1), line)
	case d.r.Intn(4) == 0:
		tree.Imports = slices.Delete(tree.Imports, i, i+1)
	default:
		tree.Imports[0], tree.Imports[i] = line, tree.Imports[0]
	}
}

// next gives a module's next text.
func (d *editor) next(module string) string {
	now, old := d.texts[module], d.old[module]
	switch d.r.Intn(8) {
	case 0:
		if len(old) > 0 {
			now = old[d.r.Intn(len(old))]
			d.trees[module], _ = syntax.Parse(now)
		}
		return now
	case 1:
		return now[:min(len(now), api.MaxText-1)] + string("?; "[d.r.Intn(3)])
	case 2:
		d.changeImport(module)
	case 3, 4, 5:
		d.changeFunction(module)
	}
	for range 20 {
		if text := d.text(module); len(text) <= api.MaxText {
			d.old[module] = append(old, text)
			return text
		}
	}
	return now
}

// Behind any edits and builds all is as the model says, and as in a new store.
func TestP7DrawnEdits(t *testing.T) {
	r := rand.New(rand.NewSource(7))
	counts := map[string]int{}
	for range 150 {
		s, d := New(), newEditor(r)
		m := &model{texts: d.texts, objects: map[string]modelled{}}
		for range 60 {
			module := editorModules[r.Intn(len(editorModules))]
			if _, there := d.texts[module]; there && r.Intn(25) == 0 {
				is(t, "Remove", s.Remove(module), api.OK)
				delete(d.texts, module)
				delete(m.objects, module)
				d.begin(module)
			} else {
				d.texts[module] = d.next(module)
				set(t, s, module, d.texts[module])
			}
			m.sameUses(t, s)
			if r.Intn(3) > 0 {
				d.sameBuild(t, s, m, counts)
			}
			if t.Failed() {
				t.Fatalf("of %q", d.texts)
			}
		}
	}
	for what, n := range map[string]int{"compiled": 5000, "compiled by a use": 1000, "left as they are": 5000, "right builds": 1000, "wrong builds": 1000, "runs": 1000} {
		if counts[what] < n {
			t.Errorf("%s: just %d", what, counts[what])
		}
	}
}

func (m *model) sameUses(t *testing.T, s *Store) {
	t.Helper()
	for _, module := range editorModules {
		if o, there := m.objects[module]; there {
			uses(t, s, module, entries(o.uses))
		} else {
			noObject(t, s, module)
		}
	}
}

func (d *editor) sameBuild(t *testing.T, s *Store, m *model, counts map[string]int) {
	t.Helper()
	fresh := New()
	for module, text := range d.texts {
		set(t, fresh, module, text)
	}
	wrong := fresh.Build()
	builds(t, s, wrong...)
	all, byUse := m.build(wrong)
	compiled(t, s, strings.Join(all, " "))
	m.sameUses(t, s)
	if got, want := s.Image(), fresh.Image(); got != want {
		t.Errorf("the image is %q, in a new store %q", got, want)
	}
	d.sameRuns(t, s, fresh, counts)
	counts["compiled"] += len(all)
	counts["compiled by a use"] += len(byUse)
	counts["left as they are"] += len(d.texts) - len(all)
	if len(wrong) > 0 {
		counts["wrong builds"]++
	} else {
		counts["right builds"]++
	}
}

func (d *editor) sameRuns(t *testing.T, s, fresh *Store, counts map[string]int) {
	t.Helper()
	for _, module := range editorModules {
		for _, f := range d.trees[module].Functions {
			args := d.args(f.Params)
			want, e := fresh.Run(module, f.Name, args, 50)
			if got, code := s.Run(module, f.Name, args, 50); got != want || code != e {
				t.Errorf("%s.%s with %v: %d, %d, in a new store %d, %d", module, f.Name, args, got, code, want, e)
			}
			if e == api.OK {
				counts["runs"]++
			}
		}
	}
}
