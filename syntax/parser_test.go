package syntax

import (
	"strconv"
	"strings"
	"testing"
)

// shape writes an expression out with brackets around all that has parts.
func shape(e Expr) string {
	var b strings.Builder
	kinds := []string{"", "", "", "call", "br", "if", "let", "<", "==", "+", "-", "*", "/", "neg", "not"}
	switch e.Kind {
	case Number:
		return strconv.Itoa(e.Value)
	case Truth:
		return "t" + strconv.Itoa(e.Value)
	case Variable:
		return e.Name
	}
	b.WriteString("(" + kinds[e.Kind])
	if e.Name != "" {
		b.WriteString(" " + e.Name)
	}
	for _, part := range e.Parts {
		b.WriteString(" " + shape(part))
	}
	return b.String() + ")"
}

func TestExpressions(t *testing.T) {
	for _, c := range [][2]string{
		{"007", "7"},
		{"true", "t1"},
		{"false", "t0"},
		{"1-2-3", "(- (- 1 2) 3)"},
		{"1-2+3", "(+ (- 1 2) 3)"},
		{"8/4*2", "(* (/ 8 4) 2)"},
		{"1+2*3-4", "(- (+ 1 (* 2 3)) 4)"},
		{"(1+2)*3", "(* (br (+ 1 2)) 3)"},
		{"-a*b", "(* (neg a) b)"},
		{"- -1 - -1", "(- (neg (neg 1)) (neg 1))"},
		{"!a<b", "(< (not a) b)"},
		{"1+2==3*4", "(== (+ 1 2) (* 3 4))"},
		{"f()+g(1,h(x))", "(+ (call f) (call g 1 (call h x)))"},
		{"f (if a then 1 else 2, let b = 3 in b)", "(call f (if a 1 2) (let b 3 b))"},
		{"if a then if b then 1 else 2 else 3", "(if a (if b 1 2) 3)"},
		{"if a then 1 else if b then 2 else 3+4<5", "(if a 1 (if b 2 (< (+ 3 4) 5)))"},
		{"let a = let b = 1 in b in a + 1", "(let a (let b 1 b) (+ a 1))"},
	} {
		m, place := Parse("fn f(): int = " + c[0] + ";")
		if m == nil {
			t.Errorf("%q has not the form at %d", c[0], place)
			continue
		}
		if got := shape(m.Functions[0].Body); got != c[1] {
			t.Errorf("%q is read as %s, want %s", c[0], got, c[1])
		}
	}
}

func TestPlacesAreOfFirstWords(t *testing.T) {
	m, _ := Parse("use ab;\npub fn cd(e: int, g: bool): bool = (e) + 1 < -e;fn h():int=1;")
	if m == nil {
		t.Fatal("has not the form")
	}
	f := m.Functions[0]
	left := f.Body.Parts[0]
	got := []int{m.Imports[0].Place, f.Place, f.Params[0].Place, f.Params[1].Place, f.Body.Place, left.Parts[0].Place, left.Parts[0].Parts[0].Place, left.Parts[1].Place, f.Body.Parts[1].Place}
	want := []int{4, 15, 18, 26, 43, 43, 44, 49, 53}
	for i := range want {
		if got[i] != want[i] {
			t.Errorf("place %d is %d, want %d", i, got[i], want[i])
		}
	}
	if !f.Public || m.Functions[1].Public {
		t.Error("the first function alone is exported")
	}
	if f.Params[0].Type != Int || f.Params[1].Type != Bool || f.Result != Bool || m.Functions[1].Result != Int {
		t.Error("types are read wrongly")
	}
}

func TestFunctionsByName(t *testing.T) {
	m, _ := Parse("fn f(): int = 1; pub fn f(): int = 2; pub fn f(): int = 3; fn g(): int = 4;")
	if f := m.Own("f"); f == nil || f.Body.Value != 1 {
		t.Error("the first function of a name is the module's own")
	}
	if f := m.Exported("f"); f == nil || f.Body.Value != 2 {
		t.Error("the first exported function of a name counts")
	}
	if m.Own("g") == nil || m.Exported("g") != nil || m.Own("h") != nil || m.Exported("h") != nil {
		t.Error("g is the module's own and not exported, h is none")
	}
}

func TestSignature(t *testing.T) {
	for text, want := range map[string]string{
		"fn f(): int = 1;":                               ":int",
		"fn f(x: bool): bool = x;":                       "bool:bool",
		"pub fn f(x: int, y: bool, z: int): int = true;": "int,bool,int:int",
	} {
		m, _ := Parse(text)
		if got := m.Functions[0].Signature(); got != want {
			t.Errorf("the signature of %s is %q, want %q", text, got, want)
		}
	}
}
