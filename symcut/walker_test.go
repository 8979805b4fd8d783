package symcut

import (
	"math"
	"math/big"
	"math/rand"
	"strings"
	"testing"

	"symcut/api"
	"symcut/syntax"
)

// walker works out what a run gives straight from the trees, with numbers of any
// size that are cut to 64 bits: it shares nothing with the machine.
type walker struct {
	trees map[string]*syntax.Module
	fuel  int
	depth int
}

// stopped is what a walker panics with when a run ends with an error.
type stopped api.Errno

func stop(code api.Errno) { panic(stopped(code)) }

func cut(n *big.Int) *big.Int {
	low := new(big.Int).And(n, new(big.Int).SetUint64(math.MaxUint64))
	return big.NewInt(int64(low.Uint64()))
}

func truth(holds bool) *big.Int {
	if holds {
		return big.NewInt(1)
	}
	return big.NewInt(0)
}

func (w *walker) run(module, function string, args []int) (result int, code api.Errno) {
	defer func() {
		switch s := recover().(type) {
		case nil:
		case stopped:
			result, code = 0, api.Errno(s)
		default:
			panic(s)
		}
	}()
	var handed []*big.Int
	for _, a := range args {
		handed = append(handed, big.NewInt(int64(a)))
	}
	return int(w.call(module, function, handed).Int64()), api.OK
}

// find gives the module whose function a call means, and the function.
func find(trees map[string]*syntax.Module, module, name string) (string, *syntax.Function) {
	for i := range trees[module].Functions {
		if f := &trees[module].Functions[i]; f.Name == name {
			return module, f
		}
	}
	for _, line := range trees[module].Imports {
		for i := range trees[line.Name].Functions {
			if f := &trees[line.Name].Functions[i]; f.Public && f.Name == name {
				return line.Name, f
			}
		}
	}
	return "", nil
}

func (w *walker) call(module, name string, args []*big.Int) *big.Int {
	if w.fuel == 0 {
		stop(api.ErrFuel)
	}
	if w.depth == 100 {
		stop(api.ErrDepth)
	}
	w.fuel--
	w.depth++
	home, f := find(w.trees, module, name)
	known := map[string]*big.Int{}
	for i, p := range f.Params {
		known[p.Name] = args[i]
	}
	result := w.eval(home, &f.Body, known)
	w.depth--
	return result
}

func (w *walker) eval(module string, e *syntax.Expr, known map[string]*big.Int) *big.Int {
	switch e.Kind {
	case syntax.Number, syntax.Truth:
		return big.NewInt(int64(e.Value))
	case syntax.Variable:
		return known[e.Name]
	case syntax.If:
		if w.eval(module, &e.Parts[0], known).Sign() != 0 {
			return w.eval(module, &e.Parts[1], known)
		}
		return w.eval(module, &e.Parts[2], known)
	case syntax.Let:
		inner := map[string]*big.Int{}
		for name, value := range known {
			inner[name] = value
		}
		inner[e.Name] = w.eval(module, &e.Parts[0], known)
		return w.eval(module, &e.Parts[1], inner)
	}
	var parts []*big.Int
	for i := range e.Parts {
		parts = append(parts, w.eval(module, &e.Parts[i], known))
	}
	if e.Kind == syntax.Call {
		return w.call(module, e.Name, parts)
	}
	return operate(e.Kind, parts)
}

func operate(kind syntax.Kind, parts []*big.Int) *big.Int {
	n := new(big.Int)
	switch kind {
	case syntax.Less:
		return truth(parts[0].Cmp(parts[1]) < 0)
	case syntax.Equal:
		return truth(parts[0].Cmp(parts[1]) == 0)
	case syntax.Not:
		return truth(parts[0].Sign() == 0)
	case syntax.Add:
		return cut(n.Add(parts[0], parts[1]))
	case syntax.Subtract:
		return cut(n.Sub(parts[0], parts[1]))
	case syntax.Multiply:
		return cut(n.Mul(parts[0], parts[1]))
	case syntax.Negate:
		return cut(n.Neg(parts[0]))
	case syntax.Divide:
		if parts[1].Sign() == 0 {
			stop(api.ErrZero)
		}
		return cut(n.Quo(parts[0], parts[1]))
	}
	return parts[0] // a bracket
}

// drawer draws programs with which nothing is wrong.
type drawer struct {
	r     *rand.Rand
	trees map[string]*syntax.Module // so far without bodies
	scope []syntax.Param
}

func (d *drawer) typ() syntax.Type {
	if d.r.Intn(3) == 0 {
		return syntax.Bool
	}
	return syntax.Int
}

// heads draws modules a, b and c, their imports, and functions without bodies.
func (d *drawer) heads() {
	modules := []string{"a", "b", "c"}
	for _, module := range modules {
		tree := &syntax.Module{}
		for _, i := range d.r.Perm(3)[:1+d.r.Intn(3)] {
			tree.Imports = append(tree.Imports, syntax.Import{Name: modules[i]})
		}
		for _, i := range d.r.Perm(5)[:1+d.r.Intn(3)] {
			f := syntax.Function{Name: string("fghkl"[i]), Public: d.r.Intn(3) > 0, Result: d.typ()}
			for j := range d.r.Intn(4) {
				f.Params = append(f.Params, syntax.Param{Name: string("xyz"[j]), Type: d.typ()})
			}
			tree.Functions = append(tree.Functions, f)
		}
		d.trees[module] = tree
	}
}

func (d *drawer) text(module string) string {
	text := ""
	for _, line := range d.trees[module].Imports {
		text += "use " + line.Name + ";"
	}
	for _, f := range d.trees[module].Functions {
		if f.Public {
			text += "pub "
		}
		var params []string
		for _, p := range f.Params {
			params = append(params, p.Name+":"+p.Type.String())
		}
		d.scope = f.Params[:len(f.Params):len(f.Params)]
		text += "fn " + f.Name + "(" + strings.Join(params, ",") + "):" + f.Result.String() + "=" + d.expr(module, f.Result, 4) + ";"
	}
	return text
}

func (d *drawer) expr(module string, typ syntax.Type, room int) string {
	if room == 0 || d.r.Intn(6) == 0 {
		return d.leaf(typ)
	}
	room--
	switch d.r.Intn(6) {
	case 0:
		return "(if " + d.expr(module, syntax.Bool, room) + " then " + d.expr(module, typ, room) + " else " + d.expr(module, typ, room) + ")"
	case 1:
		return d.binding(module, typ, room)
	case 2, 3:
		return d.call(module, typ, room)
	}
	if typ == syntax.Bool {
		return [...]string{
			"!" + d.expr(module, typ, room),
			"(" + d.expr(module, syntax.Int, room) + "<" + d.expr(module, syntax.Int, room) + ")",
			"(" + d.expr(module, syntax.Int, room) + "==" + d.expr(module, syntax.Int, room) + ")",
		}[d.r.Intn(3)]
	}
	if d.r.Intn(5) == 0 {
		return "-" + d.expr(module, typ, room)
	}
	return "(" + d.expr(module, typ, room) + string("+-*/"[d.r.Intn(4)]) + d.expr(module, typ, room) + ")"
}

func (d *drawer) binding(module string, typ syntax.Type, room int) string {
	outside, inner := d.scope, d.typ()
	v := syntax.Param{Name: string("xyzvw"[d.r.Intn(5)]), Type: inner}
	value := d.expr(module, inner, room)
	// The outer one of that name is hidden.
	d.scope = nil
	for _, p := range outside {
		if p.Name != v.Name {
			d.scope = append(d.scope, p)
		}
	}
	d.scope = append(d.scope, v)
	text := "(let " + v.Name + "=" + value + " in " + d.expr(module, typ, room) + ")"
	d.scope = outside
	return text
}

func (d *drawer) call(module string, typ syntax.Type, room int) string {
	for _, i := range d.r.Perm(5) {
		name := string("fghkl"[i])
		_, f := find(d.trees, module, name)
		if f == nil || f.Result != typ {
			continue
		}
		var handed []string
		for _, p := range f.Params {
			handed = append(handed, d.expr(module, p.Type, min(room, 1)))
		}
		return name + "(" + strings.Join(handed, ",") + ")"
	}
	return d.leaf(typ)
}

func (d *drawer) leaf(typ syntax.Type) string {
	var fitting []string
	for _, p := range d.scope {
		if p.Type == typ {
			fitting = append(fitting, p.Name)
		}
	}
	if len(fitting) > 0 && d.r.Intn(4) > 0 {
		return fitting[d.r.Intn(len(fitting))]
	}
	if typ == syntax.Bool {
		return [...]string{"true", "false"}[d.r.Intn(2)]
	}
	return [...]string{"0", "1", "2", "7", "999999999"}[d.r.Intn(5)]
}

func (d *drawer) args(params []syntax.Param) []int {
	numbers := []int{0, 1, -1, 2, 3, 12345, math.MinInt, math.MaxInt, math.MinInt + 1, 1 << 32}
	var args []int
	for _, p := range params {
		if p.Type == syntax.Bool {
			args = append(args, d.r.Intn(2))
		} else {
			args = append(args, numbers[d.r.Intn(len(numbers))])
		}
	}
	return args
}

// Drawn programs give on the machine what walking through their trees gives.
func TestP5DrawnPrograms(t *testing.T) {
	r := rand.New(rand.NewSource(5))
	ends := map[api.Errno]int{}
	drawn := 0
	for round := range 3000 {
		d := &drawer{r: r, trees: map[string]*syntax.Module{}}
		d.heads()
		s, w := New(), &walker{trees: map[string]*syntax.Module{}}
		fits := true
		for _, module := range []string{"a", "b", "c"} {
			text := d.text(module)
			fits = fits && s.Set(module, text) == api.OK
			w.trees[module], _ = syntax.Parse(text)
		}
		if !fits {
			continue
		}
		if wrong := s.Build(); wrong != nil {
			t.Fatalf("round %d: Build tells %v", round, wrong)
		}
		d.compare(t, s, w, ends)
		drawn++
	}
	if drawn < 1000 {
		t.Errorf("just %d programs fit", drawn)
	}
	for _, code := range []api.Errno{api.OK, api.ErrFuel, api.ErrZero, api.ErrDepth} {
		if ends[code] < 100 {
			t.Errorf("just %d runs end with %d", ends[code], code)
		}
	}
}

func (d *drawer) compare(t *testing.T, s *Store, w *walker, ends map[api.Errno]int) {
	for _, module := range []string{"a", "b", "c"} {
		for _, f := range d.trees[module].Functions {
			if !f.Public {
				continue
			}
			for _, fuel := range []int{d.r.Intn(4), d.r.Intn(300), 2000} {
				args := d.args(f.Params)
				w.fuel, w.depth = fuel, 0
				want, code := w.run(module, f.Name, args)
				got, e := s.Run(module, f.Name, args, fuel)
				if got != want || e != code {
					t.Errorf("%s.%s with %v, fuel %d: %d, %d, want %d, %d", module, f.Name, args, fuel, got, e, want, code)
				}
				ends[code]++
			}
		}
	}
}
