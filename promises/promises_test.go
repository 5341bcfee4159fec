// Package promises tests the promises that hold for every call (P1 and P2).
package promises

import (
	"math"
	"reflect"
	"slices"
	"strings"
	"testing"

	"bulkhead/api"
	"bulkhead/build"
	"bulkhead/kernel"
	"bulkhead/manifest"
)

var numbers = []int{math.MinInt, math.MinInt + 1, -65, -1, 0, 1, 2, 3, 4, 8, 63, 64, 65, 127, 128, 240, 241, 4095, 4096, 1 << 32, math.MaxInt - 1, math.MaxInt}

func example() api.Manifest {
	return api.Manifest{
		Frame: 6,
		Partitions: []api.Partition{
			{Name: "a", Period: 2, Duration: 1, Action: api.Stop, Regions: []api.Region{{Page: 0, Pages: 2, Rights: api.Change}}},
			{Name: "b", Period: 3, Duration: 1, Action: api.Ignore},
		},
		Channels: []api.Channel{{Name: "c", Source: 0, Target: 1, Kind: api.Queue, Size: 4, Depth: 2}},
	}
}

// setters each put a number somewhere into a manifest.
func setters() []func(m *api.Manifest, n int) {
	return []func(m *api.Manifest, n int){
		func(m *api.Manifest, n int) { m.Frame = n },
		func(m *api.Manifest, n int) { m.Partitions[0].Period = n },
		func(m *api.Manifest, n int) { m.Partitions[0].Duration = n },
		func(m *api.Manifest, n int) { m.Partitions[0].Action = n },
		func(m *api.Manifest, n int) { m.Partitions[0].Regions[0].Page = n },
		func(m *api.Manifest, n int) { m.Partitions[0].Regions[0].Pages = n },
		func(m *api.Manifest, n int) { m.Partitions[0].Regions[0].Rights = n },
		func(m *api.Manifest, n int) { m.Channels[0].Source = n },
		func(m *api.Manifest, n int) { m.Channels[0].Target = n },
		func(m *api.Manifest, n int) { m.Channels[0].Kind = n },
		func(m *api.Manifest, n int) { m.Channels[0].Size = n },
		func(m *api.Manifest, n int) { m.Channels[0].Depth = n },
	}
}

// manifests has the example, and ones with odd numbers, names and lists.
func manifests() []api.Manifest {
	all := []api.Manifest{{}, example(), {Frame: 6, Partitions: make([]api.Partition, 1000), Channels: make([]api.Channel, 1000)}}
	for _, first := range setters() {
		for _, n := range numbers {
			m := example()
			first(&m, n)
			all = append(all, m)
			for _, second := range setters() {
				both := example()
				first(&both, n)
				second(&both, math.MaxInt)
				all = append(all, both)
			}
		}
	}
	for _, name := range []string{"", "_", "A", "\x00", "a b", "é", strings.Repeat("a", 1<<16)} {
		m := example()
		m.Partitions[1].Name, m.Channels[0].Name = name, name
		all = append(all, m)
	}
	return all
}

func texts() []string {
	all := []string{"", "\x00", "module", "module 6;", "module 999999;", strings.Repeat("{", 8192), strings.Repeat("#", 8193), strings.Repeat("module 6;", 1<<16)}
	for b := range 256 {
		all = append(all, string([]byte{byte(b)}), "module 6;"+string([]byte{byte(b)}))
	}
	return all
}

func isNothing(m api.Manifest) bool {
	return m.Frame == 0 && len(m.Partitions) == 0 && len(m.Channels) == 0
}

func TestP1Texts(t *testing.T) {
	for _, text := range texts() {
		m, place, e := manifest.Parse(text)
		if e != api.OK && !isNothing(m) {
			t.Errorf("Parse(%.40q) answers %d and a manifest", text, e)
		}
		if (place == api.Place{}) != (e == api.OK || e == api.ErrSize) {
			t.Errorf("Parse(%.40q) answers %d and the place %v", text, e, place)
		}
	}
}

func TestP1FirstErrorCounts(t *testing.T) {
	for _, c := range []struct {
		text string
		want api.Errno
	}{
		{"08" + strings.Repeat(" ", 8192), api.ErrSize},
		{"seventeen_letters 08 ;", api.ErrWord},
		{"08 seventeen_letters ;", api.ErrNumber},
		{"; 08 seventeen_letters", api.ErrSyntax},
		{"module 8; channel c x -> 08", api.ErrUnknown},
		{"module 8; channel c seventeen_letters", api.ErrWord},
	} {
		if _, _, e := manifest.Parse(c.text); e != c.want {
			t.Errorf("Parse(%.40q) = %d, want %d", c.text, e, c.want)
		}
	}
}

func TestP1Manifests(t *testing.T) {
	for _, m := range manifests() {
		manifest.Check(m)
		if text, e := manifest.Print(m); e != api.OK && text != "" {
			t.Errorf("Print answers %d and %q", e, text)
		}
		if plan, e := build.Plan(m); e != api.OK && len(plan) != 0 {
			t.Errorf("Plan answers %d and %v", e, plan)
		}
		if image, e := build.Compile(m); e != api.OK && image != "" {
			t.Errorf("Compile answers %d and %q", e, image)
		}
	}
}

// images are those of the manifests that have one.
func images() []string {
	var all []string
	for _, m := range manifests() {
		if image, e := build.Compile(m); e == api.OK {
			all = append(all, image)
		}
	}
	return all
}

func TestP1Kernels(t *testing.T) {
	booted := 0
	for _, bytes := range append(texts(), images()...) {
		k, e := kernel.Boot(bytes)
		if (k != nil) != (e == api.OK) {
			t.Errorf("Boot(%.40q) answers %d and %v", bytes, e, k)
		}
		if k != nil {
			booted++
			useKernel(t, k)
		}
	}
	if booted < len(images()) {
		t.Errorf("of %d images %d kernels have booted", len(images()), booted)
	}
}

func useKernel(t *testing.T, k *kernel.Kernel) {
	for _, p := range numbers {
		k.Tick()
		k.Running()
		for _, n := range numbers {
			if b, e := k.Read(p, n); e != api.OK && b != 0 {
				t.Errorf("Read(%d, %d) answers %d and %d", p, n, e, b)
			}
			k.Write(p, n, n)
			k.Send(p, n, "message")
			if message, fresh, e := k.Receive(p, n); e != api.OK && (message != "" || fresh) {
				t.Errorf("Receive(%d, %d) answers %d and %q, %v", p, n, e, message, fresh)
			}
		}
		k.Raise(p)
		if state, e := k.State(p); e != api.OK && state != (api.State{}) {
			t.Errorf("State(%d) answers %d and %v", p, e, state)
		}
	}
}

// roomy has the example's lists with spare room behind them, which is filled.
func roomy() api.Manifest {
	m := example()
	for i := range m.Partitions {
		m.Partitions[i].Regions = withRoom(m.Partitions[i].Regions, api.Region{Page: 7})
	}
	m.Partitions = withRoom(m.Partitions, api.Partition{Name: "room"})
	m.Channels = withRoom(m.Channels, api.Channel{Name: "room"})
	return m
}

func withRoom[E any](list []E, filler E) []E {
	return append(slices.Clone(list), filler, filler, filler)[:len(list)]
}

// wholeOf is m with its lists as long as their room.
func wholeOf(m api.Manifest) api.Manifest {
	m.Partitions = slices.Clone(m.Partitions[:cap(m.Partitions)])
	for i := range m.Partitions {
		regions := m.Partitions[i].Regions
		m.Partitions[i].Regions = slices.Clone(regions[:cap(regions)])
	}
	m.Channels = slices.Clone(m.Channels[:cap(m.Channels)])
	return m
}

func TestP2ArgumentsStay(t *testing.T) {
	for _, change := range setters() {
		for _, n := range numbers {
			m := roomy()
			change(&m, n)
			before := wholeOf(m)
			askOfManifest(m)
			if after := wholeOf(m); !reflect.DeepEqual(before, after) {
				t.Errorf("a manifest that was handed in was %+v and is %+v", before, after)
			}
		}
	}
}

func TestP2RoomSaysNothing(t *testing.T) {
	if with, without := askOfManifest(roomy()), askOfManifest(example()); !reflect.DeepEqual(with, without) {
		t.Errorf("with spare room behind its lists a manifest is answered %v, without %v", with, without)
	}
}

// askOfManifest has what each call answers that takes a manifest.
func askOfManifest(m api.Manifest) []any {
	text, printed := manifest.Print(m)
	plan, planned := build.Plan(m)
	image, compiled := build.Compile(m)
	return []any{manifest.Check(m), text, printed, plan, planned, image, compiled}
}

func askOfText(text string) []any {
	m, place, e := manifest.Parse(text)
	return []any{m, place, e}
}

// askOfImage has what a kernel answers on its way through two frames.
func askOfImage(image string) []any {
	k, e := kernel.Boot(image)
	answers := []any{e}
	if k == nil {
		return answers
	}
	for range 12 {
		p := k.Running()
		b, read := k.Read(p, 0)
		message, fresh, received := k.Receive(p, 0)
		answers = append(answers, p, b, read, message, fresh, received, k.Write(p, 1, 1), k.Send(p, 0, "x"))
		state, e := k.State(p)
		answers = append(answers, state, e)
		k.Tick()
	}
	return answers
}

func TestP2AnswersHangOnArguments(t *testing.T) {
	expectSameAgain(t, texts(), askOfText)
	expectSameAgain(t, manifests(), askOfManifest)
	expectSameAgain(t, append(images(), texts()...), askOfImage)
}

// expectSameAgain asks for all, and then again from the last one on.
func expectSameAgain[A any](t *testing.T, all []A, ask func(A) []any) {
	first := make([][]any, len(all))
	for i, one := range all {
		first[i] = ask(one)
	}
	for i, one := range slices.Backward(all) {
		if again := ask(one); !reflect.DeepEqual(first[i], again) {
			t.Errorf("of %.80v: %v, and then %v", one, first[i], again)
		}
	}
}
