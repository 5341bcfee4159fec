package build_test

import (
	"cmp"
	"math/rand"
	"slices"
	"testing"

	"bulkhead/api"
	"bulkhead/build"
	"bulkhead/manifest"
)

// pair is a partition's period and duration.
type pair struct{ period, duration int }

func of(frame int, pairs ...pair) api.Manifest {
	m := api.Manifest{Frame: frame}
	for i, one := range pairs {
		m.Partitions = append(m.Partitions, api.Partition{Name: string(rune('a' + i)), Period: one.period, Duration: one.duration, Action: api.Ignore})
	}
	return m
}

func expectPlan(t *testing.T, m api.Manifest, want []int) {
	t.Helper()
	got, e := build.Plan(m)
	if e != api.OK || !slices.Equal(got, want) {
		t.Errorf("Plan(%+v) = %v, %d, want %v", m, got, e, want)
	}
}

func TestP6Example(t *testing.T) {
	expectPlan(t, sound(), []int{0, 1, 0, 1, 0, -1})
}

func TestP6Plans(t *testing.T) {
	for _, one := range []struct {
		m    api.Manifest
		want []int
	}{
		{of(1, pair{1, 1}), []int{0}},
		{of(3, pair{1, 1}), []int{0, 0, 0}},
		{of(3, pair{3, 1}), []int{0, -1, -1}},
		{of(4, pair{2, 1}), []int{0, -1, 0, -1}},
		// Of two that must be done at the same time, the one ahead in the list.
		{of(4, pair{4, 2}, pair{4, 2}), []int{0, 0, 1, 1}},
		{of(4, pair{2, 1}, pair{4, 2}), []int{0, 1, 0, 1}},
		// The one that must be done earlier, wherever it stands.
		{of(4, pair{4, 2}, pair{2, 1}), []int{1, 0, 0, 1}},
		{of(6, pair{6, 1}, pair{3, 1}, pair{2, 1}), []int{2, 1, 2, 0, 1, 2}},
		// One that runs gives way to one that must be done earlier, and goes on behind it.
		{of(12, pair{12, 6}, pair{3, 1}), []int{1, 0, 0, 1, 0, 0, 1, 0, 0, 1, -1, -1}},
		// One that runs does not give way to one that must be done at the same time.
		{of(6, pair{3, 1}, pair{6, 4}), []int{0, 1, 1, 0, 1, 1}},
		{of(6, pair{6, 4}, pair{3, 1}), []int{1, 0, 0, 0, 0, 1}},
		// A period begins with all ticks to run, also right behind the ones before.
		{of(4, pair{2, 2}), []int{0, 0, 0, 0}},
	} {
		expectPlan(t, one.m, one.want)
	}
}

func TestP6FullFrame(t *testing.T) {
	m := of(240, slices.Repeat([]pair{{8, 1}}, 8)...)
	want := slices.Repeat([]int{0, 1, 2, 3, 4, 5, 6, 7}, 30)
	expectPlan(t, m, want)
}

// span is the ticks that a partition has to run in one of its periods.
type span struct{ place, from, end, ticks int }

func spans(m api.Manifest) []span {
	var all []span
	for place, one := range m.Partitions {
		for from := 0; from < m.Frame; from += one.Period {
			all = append(all, span{place, from, from + one.Period, one.Duration})
		}
	}
	return all
}

// planAgain goes by spans, not by ticks: from the one that must be done first on, each takes the
// first ticks that are left for it.
func planAgain(m api.Manifest) []int {
	all := spans(m)
	slices.SortFunc(all, func(a, b span) int {
		return cmp.Or(cmp.Compare(a.end, b.end), cmp.Compare(a.place, b.place))
	})
	ticks := slices.Repeat([]int{-1}, m.Frame)
	for _, one := range all {
		for tick := one.from; tick < m.Frame && one.ticks > 0; tick++ {
			if ticks[tick] == -1 {
				ticks[tick] = one.place
				one.ticks--
			}
		}
	}
	return ticks
}

// expectFair: each partition has all its ticks in each of its periods, and no others.
func expectFair(t *testing.T, m api.Manifest) {
	t.Helper()
	plan, e := build.Plan(m)
	if e != api.OK || len(plan) != m.Frame {
		t.Fatalf("Plan(%+v) = %v, %d", m, plan, e)
	}
	for _, one := range spans(m) {
		has := 0
		for _, place := range plan[one.from:one.end] {
			if place == one.place {
				has++
			}
		}
		if has != one.ticks {
			t.Errorf("Plan(%+v) = %v: %d has %d ticks from %d to %d", m, plan, one.place, has, one.from, one.end)
		}
	}
	if least, most := slices.Min(plan), slices.Max(plan); least < -1 || most >= len(m.Partitions) {
		t.Errorf("Plan(%+v) = %v", m, plan)
	}
}

func pairsOf(frame int) []pair {
	var all []pair
	for period := 1; period <= frame; period++ {
		for duration := 1; frame%period == 0 && duration <= period; duration++ {
			all = append(all, pair{period, duration})
		}
	}
	return all
}

// expectAll looks at every manifest of that frame that has these partitions, and up to so many more.
func expectAll(t *testing.T, frame, more int, pairs ...pair) int {
	t.Helper()
	if len(pairs) > 0 {
		m := of(frame, pairs...)
		if manifest.Check(m) != api.OK {
			return 0
		}
		expectPlan(t, m, planAgain(m))
		expectFair(t, m)
	}
	count := 1
	for _, one := range pairsOf(frame) {
		if more > 0 {
			count += expectAll(t, frame, more-1, append(slices.Clone(pairs), one)...)
		}
	}
	return count
}

func TestP6AllSmallOnes(t *testing.T) {
	count := 0
	for frame := 1; frame <= 12; frame++ {
		count += expectAll(t, frame, 3)
	}
	if count < 1000 {
		t.Errorf("these were %d manifests", count)
	}
}

// drawn fills a frame, as far as it is given ticks for it.
func drawn(r *rand.Rand) api.Manifest {
	frame := []int{60, 120, 210, 240}[r.Intn(4)]
	free := frame
	var pairs []pair
	for range 8 {
		all := pairsOf(frame)
		one := all[r.Intn(len(all))]
		one.duration = min(one.duration, 1+r.Intn(3)*one.period/4)
		if need := frame / one.period * one.duration; need <= free {
			pairs = append(pairs, one)
			free -= need
		}
	}
	if len(pairs) == 0 {
		pairs = append(pairs, pair{frame, 1})
	}
	return of(frame, pairs...)
}

func TestP6Drawn(t *testing.T) {
	r := rand.New(rand.NewSource(6))
	for range 2000 {
		m := drawn(r)
		expectPlan(t, m, planAgain(m))
		expectFair(t, m)
	}
}

func TestP6WhatCheckAnswers(t *testing.T) {
	for _, one := range wrongOnes() {
		if plan, e := build.Plan(one.m); len(plan) != 0 || e != one.want {
			t.Errorf("Plan(%+v) = %v, %d, want nothing, %d", one.m, plan, e, one.want)
		}
	}
}

func TestP2PlanIsNewMemory(t *testing.T) {
	first, _ := build.Plan(sound())
	second, _ := build.Plan(sound())
	for i := range first[:cap(first)] {
		first[:cap(first)][i] = 99
	}
	if want := []int{0, 1, 0, 1, 0, -1}; !slices.Equal(second, want) {
		t.Errorf("a plan is %v, since another one was written into", second)
	}
	expectPlan(t, sound(), second)
}
