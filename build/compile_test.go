package build_test

import (
	"math"
	"math/bits"
	"math/rand"
	"strings"
	"testing"

	"bulkhead/api"
	"bulkhead/build"
	"bulkhead/manifest"
)

// sound is the document's first example.
func sound() api.Manifest {
	m, _, _ := manifest.Parse(`module 6;
partition a { period 2; duration 1; fault stop; memory 0 2 change; }
partition b { period 3; duration 1; fault ignore; }
channel c a -> b queue 4 2;`)
	return m
}

// largest has as much of everything as Check lets through, and long names.
func largest() api.Manifest {
	m := api.Manifest{Frame: api.MaxFrame}
	for i := range api.MaxPartitions {
		name := "sixteen_letters" + string(rune('a'+i))
		m.Partitions = append(m.Partitions, api.Partition{Name: name, Period: 240, Duration: 30, Action: api.Restart})
		for page := range api.MaxRegions {
			m.Partitions[i].Regions = append(m.Partitions[i].Regions, api.Region{Page: 56 + 2*page, Pages: 2, Rights: api.Change})
		}
		m.Channels = append(m.Channels, api.Channel{Name: name, Source: i, Target: (i + 1) % api.MaxPartitions, Kind: api.Sample, Size: api.MaxSize, Depth: api.MaxFrame})
	}
	return m
}

type change struct {
	want  api.Errno
	apply func(m *api.Manifest)
}

// wrongs has one change for each error of Check, in their order.
func wrongs() []change {
	return []change{
		{api.ErrFrame, func(m *api.Manifest) { m.Frame = 241 }},
		{api.ErrFrame, func(m *api.Manifest) { m.Frame = math.MinInt }},
		{api.ErrMany, func(m *api.Manifest) { m.Partitions = nil }},
		{api.ErrMany, func(m *api.Manifest) { m.Channels = make([]api.Channel, 9) }},
		{api.ErrName, func(m *api.Manifest) { m.Partitions[0].Name = "A" }},
		{api.ErrPeriod, func(m *api.Manifest) { m.Partitions[0].Period = 4 }},
		{api.ErrPeriod, func(m *api.Manifest) { m.Partitions[0].Period = 0 }},
		{api.ErrDuration, func(m *api.Manifest) { m.Partitions[0].Duration = 0 }},
		{api.ErrDuration, func(m *api.Manifest) { m.Partitions[0].Duration = math.MaxInt }},
		{api.ErrAction, func(m *api.Manifest) { m.Partitions[0].Action = 4 }},
		{api.ErrRegion, func(m *api.Manifest) { m.Partitions[0].Regions[0].Pages = 65 }},
		{api.ErrEnd, func(m *api.Manifest) { m.Channels[0].Target = 2 }},
		{api.ErrKind, func(m *api.Manifest) { m.Channels[0].Kind = 0 }},
		{api.ErrSize, func(m *api.Manifest) { m.Channels[0].Size = 33 }},
		{api.ErrDepth, func(m *api.Manifest) { m.Channels[0].Depth = 9 }},
		{api.ErrLoad, func(m *api.Manifest) { m.Partitions[1].Duration = 2 }},
		{api.ErrMemory, func(m *api.Manifest) {
			m.Partitions[1].Regions = []api.Region{{Page: 0, Pages: 63, Rights: api.Look}}
		}},
	}
}

type wrongOne struct {
	m    api.Manifest
	want api.Errno
}

// wrongOnes: of two that are wrong, Check names the first.
func wrongOnes() []wrongOne {
	all := []wrongOne{{api.Manifest{}, api.ErrFrame}}
	for i, first := range wrongs() {
		for _, second := range wrongs()[i:] {
			m := sound()
			second.apply(&m)
			first.apply(&m)
			all = append(all, wrongOne{m, first.want})
		}
	}
	return all
}

func TestWrongOnes(t *testing.T) {
	for _, one := range wrongOnes() {
		if e := manifest.Check(one.m); e != one.want {
			t.Errorf("Check(%+v) = %d, want %d", one.m, e, one.want)
		}
	}
}

func TestP7WhatCheckAnswers(t *testing.T) {
	for _, one := range wrongOnes() {
		if image, e := build.Compile(one.m); image != "" || e != one.want {
			t.Errorf("Compile(%+v) = %q, %d, want nothing, %d", one.m, image, e, one.want)
		}
	}
}

func expectImage(t *testing.T, m api.Manifest) string {
	t.Helper()
	image, e := build.Compile(m)
	most := 64 + m.Frame + 64*len(m.Partitions) + 64*len(m.Channels)
	if e != api.OK || len(image) == 0 || len(image) > most {
		t.Errorf("Compile(%+v) = %q, %d: %d bytes, at most %d", m, image, e, len(image), most)
	}
	return image
}

func TestP7Sizes(t *testing.T) {
	expectImage(t, sound())
	expectImage(t, largest())
	expectImage(t, of(1, pair{1, 1}))
	expectImage(t, of(240, pair{1, 1}))
	r := rand.New(rand.NewSource(7))
	for range 300 {
		expectImage(t, drawn(r))
	}
}

// variants are manifests of which no two let a kernel do the same.
func variants() []api.Manifest {
	all := []api.Manifest{sound(), largest(), of(1, pair{1, 1}), of(2, pair{2, 1}), of(3, pair{3, 1}), of(2, pair{2, 1}, pair{2, 1})}
	for _, apply := range []func(m *api.Manifest){
		func(m *api.Manifest) { m.Frame = 12 },
		func(m *api.Manifest) { m.Partitions[0].Period = 3 },
		func(m *api.Manifest) { m.Partitions[0].Period = 6 },
		func(m *api.Manifest) { m.Partitions[1].Period = 6 },
		func(m *api.Manifest) { m.Partitions[0].Period, m.Partitions[0].Duration = 6, 3 },
		func(m *api.Manifest) { m.Partitions[0].Action = api.Ignore },
		func(m *api.Manifest) { m.Partitions[0].Action = api.Restart },
		func(m *api.Manifest) { m.Partitions[1].Action = api.Stop },
		func(m *api.Manifest) { m.Partitions[0].Regions[0].Page = 1 },
		func(m *api.Manifest) { m.Partitions[0].Regions[0].Page = 62 },
		func(m *api.Manifest) { m.Partitions[0].Regions[0].Pages = 3 },
		func(m *api.Manifest) { m.Partitions[0].Regions[0].Pages = 64 },
		func(m *api.Manifest) { m.Partitions[0].Regions[0].Rights = api.Look },
		func(m *api.Manifest) { m.Partitions[0].Regions = nil },
		func(m *api.Manifest) {
			m.Partitions[0].Regions, m.Partitions[1].Regions = m.Partitions[1].Regions, m.Partitions[0].Regions
		},
		func(m *api.Manifest) {
			m.Partitions[0].Regions = append(m.Partitions[0].Regions, api.Region{Page: 8, Pages: 1, Rights: api.Look})
		},
		func(m *api.Manifest) { m.Channels[0].Source, m.Channels[0].Target = 1, 0 },
		func(m *api.Manifest) { m.Channels[0].Kind = api.Sample },
		func(m *api.Manifest) { m.Channels[0].Size = 5 },
		func(m *api.Manifest) { m.Channels[0].Size = 32 },
		func(m *api.Manifest) { m.Channels[0].Depth = 3 },
		func(m *api.Manifest) { m.Channels[0].Depth = 8 },
		func(m *api.Manifest) { m.Channels = nil },
		func(m *api.Manifest) {
			m.Channels = append(m.Channels, api.Channel{Name: "d", Source: 0, Target: 1, Kind: api.Queue, Size: 4, Depth: 2})
		},
		func(m *api.Manifest) {
			m.Partitions = append(m.Partitions, api.Partition{Name: "d", Period: 6, Duration: 1, Action: api.Ignore})
		},
	} {
		m := sound()
		apply(&m)
		all = append(all, m)
	}
	return all
}

// turnedBits is for images of one length.
func turnedBits(a, b string) int {
	sum := 0
	for i := range len(a) {
		sum += bits.OnesCount8(a[i] ^ b[i])
	}
	return sum
}

// A kernel knows its image alone: what it must tell apart, the images must. And none may come
// from another one by a cut or by two turned bits, since of such a one no kernel boots.
func TestP7ImagesAreApart(t *testing.T) {
	for i, m := range variants() {
		a := expectImage(t, m)
		for j, other := range variants() {
			b := expectImage(t, other)
			if i == j {
				continue
			}
			if strings.Contains(a, b) || len(a) == len(b) && turnedBits(a, b) <= 2 {
				t.Errorf("the images of %+v and %+v are %q and %q", m, other, a, b)
			}
		}
	}
}
