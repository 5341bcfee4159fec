package manifest

import (
	"errors"
	"strconv"

	"bulkhead/api"
)

var (
	errSyntax  = errors.New("another token is due here")
	errNumber  = errors.New("a number of wrong form")
	errWord    = errors.New("a word that is too long")
	errUnknown = errors.New("no partition has this name")
)

// misfit is the error of a token that does not fit.
type misfit struct {
	cause error
	place api.Place
}

func (m *misfit) Error() string {
	return strconv.Itoa(m.place.Line) + ":" + strconv.Itoa(m.place.Column) + ": " + m.cause.Error()
}

func (m *misfit) Unwrap() error { return m.cause }

func placeOf(err error) api.Place {
	var wrong *misfit
	if errors.As(err, &wrong) {
		return wrong.place
	}
	return api.Place{}
}

func errnoOf(err error) api.Errno {
	switch {
	case errors.Is(err, errWord):
		return api.ErrWord
	case errors.Is(err, errNumber):
		return api.ErrNumber
	case errors.Is(err, errUnknown):
		return api.ErrUnknown
	}
	return api.ErrSyntax
}
