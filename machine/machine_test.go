package machine

import (
	"math"
	"slices"
	"testing"

	"symcut/api"
	"symcut/code"
	"symcut/image"
	"symcut/syntax"
)

// function makes one with so many parameters and slots: ops and values by turns.
func function(params, slots int, words ...int) code.Function {
	f := code.Function{Params: slices.Repeat([]syntax.Type{syntax.Int}, params), Slots: slots}
	for pair := range slices.Chunk(words, 2) {
		f.Code = append(f.Code, code.Instruction{Op: code.Op(pair[0]), Value: pair[1]})
	}
	return f
}

func runs(t *testing.T, m *image.Image, args []int, fuel, want int, wrong api.Errno) {
	t.Helper()
	if got, e := Run(m, 0, args, fuel); got != want || e != wrong {
		t.Errorf("Run(%v, %d) = %d, %d, want %d, %d", args, fuel, got, e, want, wrong)
	}
}

func TestStepsOfAllOps(t *testing.T) {
	table := steps()
	if len(table) != int(code.Not)+1 {
		t.Errorf("%d steps, want one for each op", len(table))
	}
	for op, step := range table {
		if step == nil {
			t.Errorf("no step for %s", code.Op(op))
		}
	}
}

func TestPairs(t *testing.T) {
	const least, greatest = math.MinInt, math.MaxInt
	for _, c := range []struct {
		op                code.Op
		left, right, want int
	}{
		{code.Less, 1, 2, 1}, {code.Less, 2, 2, 0}, {code.Less, 3, 2, 0}, {code.Less, least, greatest, 1}, {code.Less, greatest, least, 0},
		{code.Equal, 2, 2, 1}, {code.Equal, 1, 2, 0}, {code.Equal, 2, 1, 0},
		{code.Add, 2, 3, 5}, {code.Add, greatest, 1, least}, {code.Add, least, -1, greatest}, {code.Add, least, least, 0},
		{code.Subtract, 2, 3, -1}, {code.Subtract, least, 1, greatest}, {code.Subtract, 0, least, least},
		{code.Multiply, -2, 3, -6}, {code.Multiply, 1 << 32, 1 << 32, 0}, {code.Multiply, greatest, 2, -2}, {code.Multiply, least, -1, least},
		{code.Divide, 7, 2, 3}, {code.Divide, -7, 2, -3}, {code.Divide, 7, -2, -3}, {code.Divide, -7, -2, 3}, {code.Divide, 1, 2, 0}, {code.Divide, -1, 2, 0},
		{code.Divide, least, -1, least}, {code.Divide, least, 1, least}, {code.Divide, 0, 5, 0},
	} {
		m := &image.Image{Functions: []code.Function{function(2, 2, int(code.Load), 0, int(code.Load), 1, int(c.op), 0, int(code.Return), 0)}}
		runs(t, m, []int{c.left, c.right}, 1, c.want, api.OK)
	}
}

func TestSingles(t *testing.T) {
	for _, c := range []struct {
		op       code.Op
		of, want int
	}{
		{code.Negate, 5, -5}, {code.Negate, 0, 0}, {code.Negate, math.MinInt, math.MinInt}, {code.Not, 0, 1}, {code.Not, 1, 0},
	} {
		m := &image.Image{Functions: []code.Function{function(1, 1, int(code.Load), 0, int(c.op), 0, int(code.Return), 0)}}
		runs(t, m, []int{c.of}, 1, c.want, api.OK)
	}
}

func TestDividingByZero(t *testing.T) {
	m := &image.Image{Functions: []code.Function{function(2, 2, int(code.Load), 0, int(code.Load), 1, int(code.Divide), 0, int(code.Return), 0)}}
	for _, n := range []int{0, 1, -1, math.MinInt} {
		runs(t, m, []int{n, 0}, 1, 0, api.ErrZero)
	}
}

func TestJumps(t *testing.T) {
	m := &image.Image{Functions: []code.Function{function(1, 1,
		int(code.Load), 0, int(code.Unless), 4, int(code.Push), 10, int(code.Jump), 5, int(code.Push), 20, int(code.Return), 0)}}
	runs(t, m, []int{1}, 1, 10, api.OK)
	runs(t, m, []int{0}, 1, 20, api.OK)
}

// A call finds its slots above what its caller works out, and leaves that as it was.
func TestCallsAndSlots(t *testing.T) {
	m := &image.Image{Functions: []code.Function{
		function(1, 2, int(code.Push), 100, int(code.Store), 1, int(code.Load), 0, int(code.Push), 3, int(code.Push), 4, int(code.Call), 1,
			int(code.Add), 0, int(code.Load), 1, int(code.Add), 0, int(code.Return), 0),
		function(2, 3, int(code.Load), 0, int(code.Store), 2, int(code.Load), 2, int(code.Load), 1, int(code.Subtract), 0, int(code.Return), 0),
	}}
	runs(t, m, []int{7}, 2, 106, api.OK)
	runs(t, m, []int{7}, 1, 0, api.ErrFuel)
	runs(t, m, []int{7}, 0, 0, api.ErrFuel)
}

func TestDepth(t *testing.T) {
	m := &image.Image{Functions: []code.Function{function(0, 0, int(code.Call), 0, int(code.Return), 0)}}
	runs(t, m, nil, api.MaxDepth+1, 0, api.ErrDepth)
	runs(t, m, nil, api.MaxDepth, 0, api.ErrFuel)
	runs(t, m, nil, api.MaxFuel, 0, api.ErrDepth)
}

func TestArgsAreNotWrittenInto(t *testing.T) {
	m := &image.Image{Functions: []code.Function{function(1, 2, int(code.Push), 9, int(code.Store), 0, int(code.Push), 8, int(code.Store), 1, int(code.Load), 0, int(code.Return), 0)}}
	args := []int{1, 2, 3, 4}
	runs(t, m, args[:1], 1, 9, api.OK)
	if !slices.Equal(args, []int{1, 2, 3, 4}) {
		t.Errorf("args are written into: %v", args)
	}
}
