// Package syntax reads the text of a module: its words, and what they say.
package syntax

import "symcut/api"

const maxDigits = 9

type wordKind int

const (
	endWord    wordKind = iota // behind the last one, so that a parser always has a word to look at
	badWord                    // can't stand anywhere
	nameWord                   // a name that is no keyword
	numberWord                 // some digits
	fixedWord                  // a keyword or a sign: it stands for itself alone
)

type word struct {
	kind  wordKind
	text  string
	place int
}

// IsName tells whether the text is one name, and no keyword.
func IsName(text string) bool {
	// The length goes first: what is handed in may be of any size.
	if text == "" || len(text) > api.MaxName {
		return false
	}
	return isLetter(text[0]) && runLength(text, isNameByte) == len(text) && !isKeyword(text)
}

func isKeyword(text string) bool {
	switch text {
	case "use", "pub", "fn", "if", "then", "else", "let", "in", "true", "false", "int", "bool":
		return true
	}
	return false
}

func isLetter(b byte) bool   { return 'a' <= b && b <= 'z' }
func isDigit(b byte) bool    { return '0' <= b && b <= '9' }
func isNameByte(b byte) bool { return isLetter(b) || isDigit(b) }
func isBlank(b byte) bool    { return b == ' ' || b == '\n' }

// splitWords gives the words of a text, with an end word behind them.
func splitWords(text string) []word {
	var words []word
	place := 0
	for {
		place += runLength(text[place:], isBlank)
		if place == len(text) {
			return append(words, word{kind: endWord, place: place})
		}
		kind, length := firstWord(text[place:])
		words = append(words, word{kind: kind, text: text[place : place+length], place: place})
		place += length
	}
}

// firstWord tells of what kind the word is that the text begins with, and how long it is.
func firstWord(text string) (wordKind, int) {
	switch {
	case isLetter(text[0]):
		length := runLength(text, isNameByte)
		return nameKind(text[:length]), length
	case isDigit(text[0]):
		length := runLength(text, isDigit)
		if length > maxDigits {
			return badWord, length
		}
		return numberWord, length
	}
	return signKind(text)
}

func nameKind(text string) wordKind {
	switch {
	case len(text) > api.MaxName:
		return badWord
	case isKeyword(text):
		return fixedWord
	}
	return nameWord
}

func signKind(text string) (wordKind, int) {
	switch text[0] {
	case '=':
		if len(text) > 1 && text[1] == '=' {
			return fixedWord, 2
		}
		return fixedWord, 1
	case '(', ')', ':', ',', ';', '<', '+', '-', '*', '/', '!':
		return fixedWord, 1
	}
	return badWord, 1
}

// runLength tells how many bytes at the text's beginning belong.
func runLength(text string, belongs func(byte) bool) int {
	length := 0
	for length < len(text) && belongs(text[length]) {
		length++
	}
	return length
}
