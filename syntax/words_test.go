package syntax

import (
	"slices"
	"strings"
	"testing"
)

func TestWords(t *testing.T) {
	for _, c := range []struct {
		text string
		want []word
	}{
		{"", nil},
		{" \n ", nil},
		{"use ab1;", []word{{fixedWord, "use", 0}, {nameWord, "ab1", 4}, {fixedWord, ";", 7}}},
		{"====", []word{{fixedWord, "==", 0}, {fixedWord, "==", 2}}},
		{"===", []word{{fixedWord, "==", 0}, {fixedWord, "=", 2}}},
		{"= =", []word{{fixedWord, "=", 0}, {fixedWord, "=", 2}}},
		{"1in", []word{{numberWord, "1", 0}, {fixedWord, "in", 1}}},
		{"in1", []word{{nameWord, "in1", 0}}},
		{"12a3", []word{{numberWord, "12", 0}, {nameWord, "a3", 2}}},
		{"abcdefgh", []word{{nameWord, "abcdefgh", 0}}},
		{"abcdefghi+", []word{{badWord, "abcdefghi", 0}, {fixedWord, "+", 9}}},
		{"123456789", []word{{numberWord, "123456789", 0}}},
		{"0123456789x", []word{{badWord, "0123456789", 0}, {nameWord, "x", 10}}},
		{"aBc", []word{{nameWord, "a", 0}, {badWord, "B", 1}, {nameWord, "c", 2}}},
		{"\t\r\x00_", []word{{badWord, "\t", 0}, {badWord, "\r", 1}, {badWord, "\x00", 2}, {badWord, "_", 3}}},
		{"\u00e9", []word{{badWord, "\xc3", 0}, {badWord, "\xa9", 1}}},
	} {
		want := append(c.want, word{kind: endWord, place: len(c.text)})
		if got := splitWords(c.text); !slices.Equal(got, want) {
			t.Errorf("words of %q: %v, want %v", c.text, got, want)
		}
	}
}

func TestEachByteAsAWord(t *testing.T) {
	for b := range 256 {
		want := badWord
		switch {
		case b == ' ' || b == '\n':
			want = endWord
		case b >= 'a' && b <= 'z':
			want = nameWord
		case b >= '0' && b <= '9':
			want = numberWord
		case strings.IndexByte("():,=;<+-*/!", byte(b)) >= 0:
			want = fixedWord
		}
		if got := splitWords(string([]byte{byte(b)}))[0].kind; got != want {
			t.Errorf("the byte %d is a word of kind %d, want %d", b, got, want)
		}
	}
}

func TestIsName(t *testing.T) {
	for _, name := range []string{"a", "z9", "abcdefgh", "a0000000", "ins", "fn1", "uses"} {
		if !IsName(name) {
			t.Errorf("%q is no name", name)
		}
	}
	for _, text := range []string{"", "A", "9z", "a-b", "a ", "abcdefghi", "a\xff", "use", "pub", "fn", "if", "then", "else", "let", "in", "true", "false", "int", "bool"} {
		if IsName(text) {
			t.Errorf("%q is a name", text)
		}
	}
}
