package manifest_test

import (
	"strings"
	"sync"
	"testing"
	"unsafe"

	"bulkhead/api"
	"bulkhead/manifest"
)

// scribblers each write over one list of a manifest and its spare room.
func scribblers(m api.Manifest) []func() {
	all := []func(){
		func() { fill(m.Channels, api.Channel{Name: "mine"}) },
	}
	for _, one := range m.Partitions {
		all = append(all, func() { fill(one.Regions, api.Region{Page: 77}) })
	}
	return append(all, func() { fill(m.Partitions, api.Partition{Name: "mine"}) })
}

func fill[E any](list []E, filler E) {
	list = list[:cap(list)]
	for i := range list {
		list[i] = filler
	}
}

func TestP2AnswersAreNewMemory(t *testing.T) {
	other, _, _ := manifest.Parse(rich)
	for chosen := range scribblers(other) {
		m, _, _ := manifest.Parse(rich)
		want := plainCopy(m)
		scribblers(m)[chosen]()
		scribblers(want)[chosen]()
		if !same(m, want) {
			t.Errorf("writing over list %d changes another one: %+v, want %+v", chosen, m, want)
		}
		expectRead(t, rich, richManifest())
	}
	if !same(other, richManifest()) {
		t.Errorf("writing over an answer changes an earlier one: %+v", other)
	}
}

func TestP2AnswersShareNoMemoryWithTheText(t *testing.T) {
	bytes := []byte(rich)
	m, _, e := manifest.Parse(unsafe.String(&bytes[0], len(bytes)))
	if e != api.OK || string(bytes) != rich {
		t.Fatalf("Parse answers %d, and leaves %q", e, bytes)
	}
	fill(bytes, 'x')
	if !same(m, richManifest()) {
		t.Errorf("writing over the text changes its manifest: %+v", m)
	}
}

func TestP2PrintedTextSharesNoMemoryWithTheNames(t *testing.T) {
	name := []byte("mine")
	m := sound()
	m.Partitions[0].Name = unsafe.String(&name[0], len(name))
	m.Channels[0].Name = m.Partitions[0].Name
	text, e := manifest.Print(m)
	if e != api.OK || string(name) != "mine" {
		t.Fatalf("Print answers %d, and leaves %q", e, name)
	}
	want := strings.Clone(text)
	fill(name, 'x')
	if text != want {
		t.Errorf("writing over a name changes the printed text: %q, want %q", text, want)
	}
}

func TestP2CallsAtTheSameTime(t *testing.T) {
	shared := sound()
	var group sync.WaitGroup
	for range 8 {
		group.Go(func() {
			for range 50 {
				expectRead(t, rich, richManifest())
				expectRefused(t, "module 8;\nchannel c a", 2, 11, api.ErrUnknown)
				expectChecked(t, "one manifest", shared, api.OK)
			}
		})
	}
	group.Wait()
}
