// Package manifest: manifests and their text: see DOC.md.
package manifest

import "bulkhead/api"

// Parse reads a manifest's text (P3).
func Parse(text string) (api.Manifest, api.Place, api.Errno) {
	if len(text) > api.MaxText {
		return api.Manifest{}, api.Place{}, api.ErrSize
	}
	m, err := parse(text)
	if err != nil {
		return api.Manifest{}, placeOf(err), errnoOf(err)
	}
	return m, api.Place{}, api.OK
}

// Check tells what is wrong with a manifest (P4).
func Check(m api.Manifest) api.Errno {
	if !isWithin(m.Frame, 1, api.MaxFrame) {
		return api.ErrFrame
	}
	if hasTooMany(m) {
		return api.ErrMany
	}
	if e := checkPartitions(m); e != api.OK {
		return e
	}
	if e := checkChannels(m); e != api.OK {
		return e
	}
	if load(m) > m.Frame {
		return api.ErrLoad
	}
	if pages(m) > api.MaxPage {
		return api.ErrMemory
	}
	return api.OK
}

// Print writes a manifest's text (P5).
func Print(m api.Manifest) (string, api.Errno) {
	if e := Check(m); e != api.OK {
		return "", e
	}
	var p printer
	p.manifest(m)
	return p.text.String(), api.OK
}
