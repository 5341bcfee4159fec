package manifest_test

import (
	"strings"
	"testing"

	"bulkhead/api"
	"bulkhead/manifest"
)

func lines(all ...string) string { return strings.Join(all, "\n") + "\n" }

func expectPrinted(t *testing.T, m api.Manifest, want string) {
	t.Helper()
	text, e := manifest.Print(m)
	if e != api.OK || text != want {
		t.Errorf("Print(%+v) = %q, %d, want %q", m, text, e, want)
	}
	expectRead(t, text, m)
}

func TestP5Example(t *testing.T) {
	m, _, _ := manifest.Parse("module 6; partition a { period 2; duration 1; fault stop; memory 0 2 change; } partition b { period 3; duration 1; fault ignore; } channel c a -> b queue 4 2;")
	expectPrinted(t, m, lines(
		"module 6;",
		"partition a {", "  period 2;", "  duration 1;", "  fault stop;", "  memory 0 2 change;", "}",
		"partition b {", "  period 3;", "  duration 1;", "  fault ignore;", "}",
		"channel c a -> b queue 4 2;",
	))
}

func TestP5EachStatement(t *testing.T) {
	expectPrinted(t, sound(), lines(
		"module 12;",
		"partition a {", "  period 12;", "  duration 2;", "  fault stop;", "  memory 0 2 change;", "}",
		"partition b {", "  period 6;", "  duration 2;", "  fault ignore;", "  memory 10 4 look;", "  memory 20 4 change;", "  memory 30 4 look;", "}",
		"partition c {", "  period 4;", "  duration 1;", "  fault restart;", "  memory 10 8 look;", "}",
		"channel a a -> b queue 4 2;",
		"channel x b -> c queue 4 2;",
		"channel y c -> a sample 4 10;",
	))
	expectPrinted(t, api.Manifest{Frame: 1, Partitions: []api.Partition{idle("module", 1)}}, lines(
		"module 1;",
		"partition module {", "  period 1;", "  duration 1;", "  fault ignore;", "}",
	))
}

func TestP5ReadsBack(t *testing.T) {
	for _, one := range soundTurns() {
		m := sound()
		one.change(&m)
		text, e := manifest.Print(m)
		if e != api.OK {
			t.Errorf("%s: Print(%+v) = %q, %d", one.name, m, text, e)
		}
		expectRead(t, text, m)
	}
}

// largest has as much of everything as Check lets through, and long names.
func largest() api.Manifest {
	m := api.Manifest{Frame: 240}
	for i := range api.MaxPartitions {
		one := api.Partition{Name: "sixteen_letters" + string(rune('a'+i)), Period: 240, Duration: 30, Action: api.Restart}
		for page := range api.MaxRegions {
			one.Regions = append(one.Regions, api.Region{Page: 56 + 2*page, Pages: 2, Rights: api.Change})
		}
		m.Partitions = append(m.Partitions, one)
		m.Channels = append(m.Channels, api.Channel{Name: one.Name, Source: i, Target: (i + 1) % api.MaxPartitions, Kind: api.Sample, Size: 32, Depth: 240})
	}
	return m
}

func TestP5Largest(t *testing.T) {
	text, e := manifest.Print(largest())
	if e != api.OK || strings.Count(text, "\n") != 1+8*9+8 {
		t.Errorf("Print = %q, %d", text, e)
	}
	expectRead(t, text, largest())
}

func TestP5WhatCheckAnswers(t *testing.T) {
	for _, one := range wrongTurns() {
		m := sound()
		one.change(&m)
		if text, e := manifest.Print(m); text != "" || e != one.want {
			t.Errorf("%s: Print(%+v) = %q, %d, want nothing, %d", one.name, m, text, e, one.want)
		}
	}
}
