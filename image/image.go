// Package image links the objects of modules to an image that the machine can run.
package image

import (
	"slices"
	"strconv"
	"strings"

	"symcut/code"
)

// Image has the functions of all modules. The value of a call is a place among them.
type Image struct {
	Functions []code.Function
}

// Link makes an image of objects. Each function that one of them calls is in one of them.
func Link(objects []code.Object) *Image {
	m := &Image{}
	places := map[code.Symbol]int{}
	for _, o := range objects {
		for _, f := range o.Functions {
			places[f.Symbol] = len(m.Functions)
			m.Functions = append(m.Functions, f)
		}
	}
	for i := range m.Functions {
		bind(&m.Functions[i], places)
	}
	return m
}

// bind lets the calls of a function go to places of the image. The code is
// copied, as the object may be linked again to other ones.
func bind(f *code.Function, places map[code.Symbol]int) {
	f.Code = slices.Clone(f.Code)
	for i, in := range f.Code {
		if in.Op == code.Call {
			f.Code[i].Value = places[f.Calls[in.Value]]
		}
	}
	f.Calls = nil
}

// Exported gives the place of a function that a module exports; or -1.
func (m *Image) Exported(module, name string) int {
	return slices.IndexFunc(m.Functions, func(f code.Function) bool {
		return f.Public && f.Symbol == code.Symbol{Module: module, Name: name}
	})
}

// Text writes down all that a run may hang on.
func (m *Image) Text() string {
	var b strings.Builder
	// Ahead of all stands how many there are, so that no image is an empty text.
	b.WriteString("functions " + strconv.Itoa(len(m.Functions)) + "\n")
	for i := range m.Functions {
		writeFunction(&b, &m.Functions[i])
	}
	return b.String()
}

func writeFunction(b *strings.Builder, f *code.Function) {
	if f.Public {
		b.WriteString("pub ")
	}
	b.WriteString("fn " + f.Module + "." + f.Name + " " + f.Signature + " slots " + strconv.Itoa(f.Slots) + "\n")
	for _, in := range f.Code {
		b.WriteString("\t" + in.Op.String())
		if in.Op.HasValue() {
			b.WriteString(" " + strconv.Itoa(in.Value))
		}
		b.WriteString("\n")
	}
}
