package manifest_test

import (
	"math/rand"
	"regexp"
	"slices"
	"strings"
	"testing"

	"bulkhead/api"
	"bulkhead/manifest"
)

// The tests here hold Parse against a second reading of P3, made in another
// way: tokens by regular expressions, the grammar as a table of steps.

var (
	oracleToken  = regexp.MustCompile(`^(?: |\n|#[^\n]*)*([a-z0-9][a-z0-9_]*|->|(?s:.)|$)`)
	oracleNumber = regexp.MustCompile(`^(0|[1-9][0-9]{0,5})$`)
	oracleName   = regexp.MustCompile(`^[a-z][a-z0-9_]{0,15}$`)
)

// oracleGrammar: in each state, what fits, and the state behind it. No token
// has one of the texts NUMBER, WORD, PARTITION (a word that names one) and END.
var oracleGrammar = []map[string]int{
	0:  {"module": 1},
	1:  {"NUMBER": 2},
	2:  {";": 3},
	3:  {"partition": 4, "channel": 20, "END": -1},
	4:  {"WORD": 5},
	5:  {"{": 6},
	6:  {"period": 7},
	7:  {"NUMBER": 8},
	8:  {";": 9},
	9:  {"duration": 10},
	10: {"NUMBER": 11},
	11: {";": 12},
	12: {"fault": 13},
	13: {"ignore": 14, "stop": 14, "restart": 14},
	14: {";": 15},
	15: {"memory": 16, "}": 3},
	16: {"NUMBER": 17},
	17: {"NUMBER": 18},
	18: {"look": 19, "change": 19},
	19: {";": 15},
	20: {"WORD": 21},
	21: {"PARTITION": 22},
	22: {"->": 23},
	23: {"PARTITION": 24},
	24: {"queue": 25, "sample": 25},
	25: {"NUMBER": 26},
	26: {"NUMBER": 27},
	27: {";": 28},
	28: {"channel": 20, "END": -1},
}

// oracleStep tells whether a token fits in a state, and the error if not.
func oracleStep(state int, token string, names []string) (int, api.Errno) {
	fits := oracleGrammar[state]
	isWord := token != "" && token[0] >= 'a' && token[0] <= 'z'
	isNumber := token != "" && token[0] >= '0' && token[0] <= '9'
	key := token
	switch {
	case isWord && !oracleName.MatchString(token):
		return 0, api.ErrWord
	case isNumber && !oracleNumber.MatchString(token):
		return 0, api.ErrNumber
	case token == "":
		key = "END"
	case isNumber:
		key = "NUMBER"
	case isWord && fits["PARTITION"] != 0:
		if !slices.Contains(names, token) {
			return 0, api.ErrUnknown
		}
		key = "PARTITION"
	case isWord && fits["WORD"] != 0:
		key = "WORD"
	case token == "END":
		return 0, api.ErrSyntax
	}
	if next, ok := fits[key]; ok {
		return next, api.OK
	}
	return 0, api.ErrSyntax
}

func oracle(text string) (api.Place, api.Errno) {
	if len(text) > 8192 {
		return api.Place{}, api.ErrSize
	}
	var names []string
	for state, at := 0, 0; state >= 0; {
		// A byte that is no UTF-8 is matched as one byte by (?s:.), but a longer rune whole: only its start counts.
		found := oracleToken.FindStringSubmatchIndex(text[at:])
		start, end := at+found[2], at+found[3]
		next, e := oracleStep(state, text[start:end], names)
		if e != api.OK {
			ahead := text[:start]
			return api.Place{Line: strings.Count(ahead, "\n") + 1, Column: start - strings.LastIndex(ahead, "\n")}, e
		}
		if state == 4 {
			names = append(names, text[start:end])
		}
		state, at = next, end
	}
	return api.Place{}, api.OK
}

func expectLikeOracle(t *testing.T, text string) {
	t.Helper()
	place, e := oracle(text)
	if e != api.OK {
		expectRefused(t, text, place.Line, place.Column, e)
		return
	}
	if _, place, e := manifest.Parse(text); e != api.OK || place != (api.Place{}) {
		t.Errorf("Parse(%q) = %v, %d, want OK", text, place, e)
	}
}

func TestP3CutTexts(t *testing.T) {
	for i := range len(rich) + 1 {
		expectLikeOracle(t, rich[:i])
		expectLikeOracle(t, rich[i:])
		for k := i; k <= min(i+20, len(rich)); k++ {
			expectLikeOracle(t, rich[:i]+rich[k:])
		}
	}
}

func TestP3EveryByteEverywhere(t *testing.T) {
	for i := range len(rich) {
		for b := range 256 {
			one := string([]byte{byte(b)})
			expectLikeOracle(t, rich[:i]+one+rich[i+1:])
			expectLikeOracle(t, rich[:i]+one+rich[i:])
		}
	}
}

func TestP3EveryTokenEverywhere(t *testing.T) {
	others := []string{"", "module", "partition", "period", "duration", "fault", "ignore", "stop", "restart", "memory", "look", "change", "channel", "queue", "sample", "a", "b", "nobody", "sixteen_letters_", "seventeen_letters", "0", "7", "999999", "07", "00", "1000000", "1x", "{", "}", ";", "->", "-", ">", "- >", "$", "_", "\t", "\r", "Z", "é", "#", "# \n", "\n"}
	tokens := regexp.MustCompile(`[a-z0-9_]+|->|[{};]`).FindAllStringIndex(rich, -1)
	for _, token := range tokens {
		for _, other := range others {
			expectLikeOracle(t, rich[:token[0]]+other+rich[token[1]:])
			expectLikeOracle(t, rich[:token[0]]+" "+other+" "+rich[token[1]:])
			expectLikeOracle(t, rich[:token[0]]+" "+other+"\n"+rich[token[0]:])
		}
	}
}

// Every run has the same texts: the source has a fixed seed.
func TestP3MixedTexts(t *testing.T) {
	source := rand.New(rand.NewSource(1))
	pieces := append(strings.SplitAfter(rich, " "), strings.SplitAfter(rich, "\n")...)
	pieces = append(pieces, "\n", "#", "08", "seventeen_letters ", "\xff", "$")
	for range 20000 {
		text := "module 6;"
		for range source.Intn(30) {
			text += pieces[source.Intn(len(pieces))]
		}
		expectLikeOracle(t, text)
	}
}
