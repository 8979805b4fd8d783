package syntax

import (
	"slices"
	"strings"
	"testing"
)

// grammar is the document's, written out without options and repetitions. What
// is no rule of it is a word: NAME, NUMBER, or one that stands for itself.
func grammar() map[string][][]string {
	rules := map[string][][]string{}
	for line := range strings.Lines(`module = imports functions
imports = | use NAME ; imports
functions = | pub function functions | function functions
function = fn NAME ( params ) : type = expr ;
params = | param moreparams
moreparams = | , param moreparams
param = NAME : type
type = int | bool
expr = if expr then expr else expr | let NAME = expr in expr | compare
compare = sum | sum < sum | sum == sum
sum = term | sum + term | sum - term
term = factor | term * factor | term / factor
factor = NUMBER | true | false | ( expr ) | - factor | ! factor | NAME | NAME ( args )
args = | expr moreargs
moreargs = | , expr moreargs
`) {
		name, rest, _ := strings.Cut(line, " = ")
		for way := range strings.SplitSeq(rest, "|") {
			rules[name] = append(rules[name], strings.Fields(way))
		}
	}
	return rules
}

// item: how far one way of a rule has been read, and from which word on.
type item struct {
	rule      string
	way, done int
	from      int
}

// reader keeps, for each word, what may be under way ahead of it (Earley's way).
type reader struct {
	rules map[string][][]string
	sets  [][]item
}

func (r *reader) behind(i item) string {
	if parts := r.rules[i.rule][i.way]; i.done < len(parts) {
		return parts[i.done]
	}
	return ""
}

func (r *reader) add(set int, i item) {
	if !slices.Contains(r.sets[set], i) {
		r.sets[set] = append(r.sets[set], i)
	}
}

// close adds what is begun and what is ended ahead of a word, until nothing new comes.
func (r *reader) close(set int) {
	for before := -1; before != len(r.sets[set]); {
		before = len(r.sets[set])
		for k := 0; k < len(r.sets[set]); k++ {
			i := r.sets[set][k]
			next := r.behind(i)
			for way := range r.rules[next] {
				r.add(set, item{rule: next, way: way, from: set})
			}
			if next != "" {
				continue
			}
			for _, outer := range slices.Clone(r.sets[i.from]) {
				if r.behind(outer) == i.rule {
					outer.done++
					r.add(set, outer)
				}
			}
		}
	}
}

// firstWrong gives the index of the first word that can't stand there, or -1.
func firstWrong(rules map[string][][]string, words []word) int {
	r := &reader{rules: rules, sets: [][]item{{{rule: "module"}}}}
	for k, w := range words {
		r.close(k)
		if w.kind == endWord {
			if slices.ContainsFunc(r.sets[k], func(i item) bool { return i.rule == "module" && r.behind(i) == "" }) {
				return -1
			}
			return k
		}
		r.sets = append(r.sets, nil)
		for _, i := range r.sets[k] {
			if r.behind(i) == symbol(w) {
				i.done++
				r.add(k+1, i)
			}
		}
		if len(r.sets[k+1]) == 0 {
			return k
		}
	}
	return -1
}

func symbol(w word) string {
	switch w.kind {
	case nameWord:
		return "NAME"
	case numberWord:
		return "NUMBER"
	case badWord:
		return "BAD"
	}
	return w.text
}

// agrees holds Parse against the grammar.
func agrees(t *testing.T, rules map[string][][]string, text string) {
	t.Helper()
	words := splitWords(text)
	wrong := firstWrong(rules, words)
	m, place := Parse(text)
	switch {
	case wrong < 0 && m == nil:
		t.Errorf("%q has the form, but Parse told %d", text, place)
	case wrong < 0 && place != 0:
		t.Errorf("%q has the form, but Parse gave the place %d", text, place)
	case wrong >= 0 && m != nil:
		t.Errorf("%q has not the form at %d, but Parse took it", text, words[wrong].place)
	case wrong >= 0 && place != words[wrong].place:
		t.Errorf("%q has not the form at %d, but Parse told %d", text, words[wrong].place, place)
	}
}

var samples = []string{
	"",
	"use a; use b2;",
	"use a;\npub fn f(x: int, y: bool): int = if y then -x else x / 2; fn g(): bool = !(1 < 2);",
	"fn f(): int = let a = g(1, 2 + 3 * h()) in if a == 1 then (a) else a - - 1;",
}

// Each word of each sample is taken away, and replaced by, and followed by, each word there is.
func TestParseKeepsToTheGrammar(t *testing.T) {
	rules := grammar()
	vocabulary := strings.Fields("use pub fn if then else let in true false int bool ( ) : , = ; < == + - * / ! n 7 ? toolongname 1234567890")
	for _, sample := range samples {
		agrees(t, rules, sample)
		for _, w := range splitWords(sample) {
			end := w.place + len(w.text)
			agrees(t, rules, sample[:w.place])
			agrees(t, rules, sample[:w.place]+sample[end:])
			for _, other := range vocabulary {
				agrees(t, rules, sample[:w.place]+" "+other+" "+sample[end:])
				agrees(t, rules, sample[:end]+" "+other+" "+sample[end:])
			}
		}
	}
}

// Whatever comes behind the first word that can't stand there changes nothing.
func TestWhatComesBehindIsNotAsked(t *testing.T) {
	for _, sample := range samples {
		for _, w := range splitWords(sample) {
			for _, behind := range []string{"", " fn f(): int = 1;", "?", " ) ) )", "\xff\xfe"} {
				if m, place := Parse(sample[:w.place] + "?" + behind); m != nil || place != w.place {
					t.Errorf("%q: Parse told %d, want %d", sample[:w.place]+"?"+behind, place, w.place)
				}
			}
		}
	}
}

func TestDeepTextsEnd(t *testing.T) {
	for _, c := range []string{"(", "-", "!", "f(", "if ", "let a=", "1+", "1<", "if 1 then ", "f(1,"} {
		text := "fn f():int="
		for len(text)+len(c) <= 600 {
			text += c
		}
		if m, _ := Parse(text); m != nil {
			t.Errorf("%q has the form", text)
		}
	}
	deep := "fn f():int=" + strings.Repeat("(", 290) + "1" + strings.Repeat(")", 290) + ";"
	if m, place := Parse(deep); m == nil {
		t.Errorf("290 brackets: not the form at %d", place)
	}
}
