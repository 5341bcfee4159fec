package manifest

import (
	"errors"
	"testing"

	"bulkhead/api"
)

func TestReaderAnswersTokensInTurn(t *testing.T) {
	next := newReader("ab_1 # }\n 0;7{->}->- >\xc3_")
	for _, want := range []token{
		{word, "ab_1", 0, api.Place{Line: 1, Column: 1}},
		{number, "0", 0, api.Place{Line: 2, Column: 2}},
		{plain, ";", 0, api.Place{Line: 2, Column: 3}},
		{number, "7", 7, api.Place{Line: 2, Column: 4}},
		{plain, "{", 0, api.Place{Line: 2, Column: 5}},
		{plain, "->", 0, api.Place{Line: 2, Column: 6}},
		{plain, "}", 0, api.Place{Line: 2, Column: 8}},
		{plain, "->", 0, api.Place{Line: 2, Column: 9}},
		{plain, "-", 0, api.Place{Line: 2, Column: 11}},
		{plain, ">", 0, api.Place{Line: 2, Column: 13}},
		{plain, "\xc3", 0, api.Place{Line: 2, Column: 14}},
		{plain, "_", 0, api.Place{Line: 2, Column: 15}},
		{plain, endText, 0, api.Place{Line: 2, Column: 16}},
		{plain, endText, 0, api.Place{Line: 2, Column: 16}},
	} {
		if got, err := next(); got != want || err != nil {
			t.Errorf("the reader answers %+v, %v, want %+v", got, err, want)
		}
	}
}

func TestReadersAreApart(t *testing.T) {
	first, second := newReader("a b"), newReader("a b")
	first()
	if got, _ := second(); got.text != "a" {
		t.Errorf("a second reader begins with %q", got.text)
	}
	if got, _ := first(); got.text != "b" {
		t.Errorf("the first reader goes on with %q", got.text)
	}
}

func TestErrorsAreNamedAndKnowTheirPlace(t *testing.T) {
	for _, c := range []struct {
		text  string
		named error
		place api.Place
		told  string
	}{
		{"module 08", errNumber, api.Place{Line: 1, Column: 8}, "1:8: a number of wrong form"},
		{"\nseventeen_letters", errWord, api.Place{Line: 2, Column: 1}, "2:1: a word that is too long"},
		{"module 8;\nchannel c a", errUnknown, api.Place{Line: 2, Column: 11}, "2:11: no partition has this name"},
		{"module 8", errSyntax, api.Place{Line: 1, Column: 9}, "1:9: another token is due here"},
	} {
		_, err := parse(c.text)
		for _, named := range []error{errSyntax, errNumber, errWord, errUnknown} {
			if errors.Is(err, named) != (named == c.named) {
				t.Errorf("parse(%q): errors.Is(%v, %v) is %v", c.text, err, named, named != c.named)
			}
		}
		var wrong *misfit
		if !errors.As(err, &wrong) || wrong.place != c.place || err.Error() != c.told {
			t.Errorf("parse(%q) answers %v, want %s", c.text, err, c.told)
		}
	}
}
