package manifest

import (
	"strconv"
	"strings"

	"bulkhead/api"
)

type kind int

const (
	plain kind = iota // a sign, a byte that fits nowhere, or the end
	word
	number
)

// endText is the text of the token at the end: no other token's is empty, nor
// has a sign the text of a word, so that the grammar can ask by texts alone.
const endText = ""

type token struct {
	kind  kind
	text  string
	value int // of a number
	place api.Place
}

// newReader makes a reader of a text: each call of it answers the next token,
// and the end again and again. A word or number that fits nowhere is an error
// here already, as no rule of the grammar can take it.
func newReader(text string) func() (token, error) {
	rest, place := text, api.Place{Line: 1, Column: 1}
	take := func(length int) string {
		taken := rest[:length]
		rest = rest[length:]
		place = placeBehind(place, taken)
		return taken
	}
	return func() (token, error) {
		take(gapLength(rest))
		start := place
		return newToken(take(tokenLength(rest)), start)
	}
}

func newToken(text string, place api.Place) (token, error) {
	t := token{text: text, place: place}
	var cause error
	switch {
	case text == endText:
	case isLetter(text[0]):
		t.kind, cause = word, checkWord(text)
	case isDigit(text[0]):
		t.kind = number
		t.value, cause = numberValue(text)
	}
	if cause != nil {
		return token{}, &misfit{cause: cause, place: place}
	}
	return t, nil
}

func checkWord(text string) error {
	if len(text) > api.MaxName {
		return errWord
	}
	return nil
}

func numberValue(text string) (int, error) {
	// What is longer has too many digits, or something else among them.
	if len(text) > api.MaxDigits || text[0] == '0' && text != "0" {
		return 0, errNumber
	}
	value, err := strconv.Atoi(text)
	if err != nil {
		return 0, errNumber
	}
	return value, nil
}

// gapLength tells how many bytes stand ahead of the next token.
func gapLength(rest string) int {
	inRemark := false
	for i := range len(rest) {
		switch b := rest[i]; {
		case b == '\n':
			inRemark = false
		case b == '#':
			inRemark = true
		case b != ' ' && !inRemark:
			return i
		}
	}
	return len(rest)
}

// tokenLength tells how many bytes the token has that rest begins with.
func tokenLength(rest string) int {
	switch {
	case rest == endText:
		return 0
	case isLetter(rest[0]) || isDigit(rest[0]):
		return runLength(rest)
	case strings.HasPrefix(rest, "->"):
		return 2
	}
	return 1
}

// runLength tells how many bytes of a word or a number rest begins with.
func runLength(rest string) int {
	for i := range len(rest) {
		if b := rest[i]; !isLetter(b) && !isDigit(b) && b != '_' {
			return i
		}
	}
	return len(rest)
}

func placeBehind(place api.Place, taken string) api.Place {
	lines := strings.Count(taken, "\n")
	if lines == 0 {
		return api.Place{Line: place.Line, Column: place.Column + len(taken)}
	}
	return api.Place{Line: place.Line + lines, Column: len(taken) - strings.LastIndexByte(taken, '\n')}
}

func isLetter(b byte) bool { return 'a' <= b && b <= 'z' }

func isDigit(b byte) bool { return '0' <= b && b <= '9' }
