package manifest

import (
	"slices"

	"bulkhead/api"
)

// option is a word that may stand somewhere in a text, and what it means there.
type option struct {
	word  string
	value int
}

func actions() []option {
	return []option{{"ignore", api.Ignore}, {"stop", api.Stop}, {"restart", api.Restart}}
}

func rights() []option {
	return []option{{"look", api.Look}, {"change", api.Change}}
}

func channelKinds() []option {
	return []option{{"queue", api.Queue}, {"sample", api.Sample}}
}

func isOption(options []option, value int) bool {
	return slices.ContainsFunc(options, func(one option) bool { return one.value == value })
}

// wordFor answers the word that means value, which one of the options has.
func wordFor(options []option, value int) string {
	for _, one := range options {
		if one.value == value {
			return one.word
		}
	}
	return ""
}
