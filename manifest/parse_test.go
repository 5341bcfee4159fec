package manifest_test

import (
	"reflect"
	"strings"
	"testing"

	"bulkhead/api"
	"bulkhead/manifest"
)

// rich has every statement of the grammar, each word that may be chosen, names
// that stand twice, remarks, and tokens without a gap between them.
const rich = `# a module; with { all }
module 6;

partition a { period 2; duration 1; fault stop; memory 0 2 change; memory 9 1 look; }
partition b{period 3;duration 1;fault ignore;}# behind a sign
  partition a { period 999999; duration 0; fault restart; memory 64 0 look; }
channel c a -> b queue 4 2;
channel c b->a sample 0 100000; # the end`

func richManifest() api.Manifest {
	return api.Manifest{
		Frame: 6,
		Partitions: []api.Partition{
			{Name: "a", Period: 2, Duration: 1, Action: api.Stop, Regions: []api.Region{{Page: 0, Pages: 2, Rights: api.Change}, {Page: 9, Pages: 1, Rights: api.Look}}},
			{Name: "b", Period: 3, Duration: 1, Action: api.Ignore},
			{Name: "a", Period: 999999, Duration: 0, Action: api.Restart, Regions: []api.Region{{Page: 64, Pages: 0, Rights: api.Look}}},
		},
		Channels: []api.Channel{
			{Name: "c", Source: 0, Target: 1, Kind: api.Queue, Size: 4, Depth: 2},
			{Name: "c", Source: 1, Target: 0, Kind: api.Sample, Size: 0, Depth: 100000},
		},
	}
}

// plainCopy has nil for each empty list: P2 lets both stand for none.
func plainCopy(m api.Manifest) api.Manifest {
	m.Partitions = append([]api.Partition(nil), m.Partitions...)
	for i := range m.Partitions {
		m.Partitions[i].Regions = append([]api.Region(nil), m.Partitions[i].Regions...)
	}
	m.Channels = append([]api.Channel(nil), m.Channels...)
	return m
}

func same(a, b api.Manifest) bool { return reflect.DeepEqual(plainCopy(a), plainCopy(b)) }

func expectRead(t *testing.T, text string, want api.Manifest) {
	t.Helper()
	m, place, e := manifest.Parse(text)
	if e != api.OK || place != (api.Place{}) || !same(m, want) {
		t.Errorf("Parse(%q) = %+v, %v, %d, want %+v", text, m, place, e, want)
	}
}

func expectRefused(t *testing.T, text string, line, column int, want api.Errno) {
	t.Helper()
	m, place, e := manifest.Parse(text)
	if e != want || place != (api.Place{Line: line, Column: column}) || !same(m, api.Manifest{}) {
		t.Errorf("Parse(%q) = %+v, %v, %d, want nothing, {%d %d}, %d", text, m, place, e, line, column, want)
	}
}

func TestP3Manifests(t *testing.T) {
	expectRead(t, rich, richManifest())
	tokens := strings.Fields("module 6 ; partition a { period 2 ; duration 1 ; fault stop ; memory 0 2 change ; memory 9 1 look ; } partition b { period 3 ; duration 1 ; fault ignore ; } partition a { period 999999 ; duration 0 ; fault restart ; memory 64 0 look ; } channel c a -> b queue 4 2 ; channel c b -> a sample 0 100000 ;")
	for _, gap := range []string{" ", "\n", "#\n", "  \n\n ", " # } 08 \t\r\x00\xff ##\n\n#\n"} {
		expectRead(t, strings.Join(tokens, gap), richManifest())
		expectRead(t, gap+strings.Join(tokens, gap)+gap, richManifest())
	}
}

func TestP3Examples(t *testing.T) {
	expectRead(t, "module 6; partition a { period 2; duration 1; fault stop; memory 0 2 change; } partition b { period 3; duration 1; fault ignore; } channel c a -> b queue 4 2;", api.Manifest{
		Frame: 6,
		Partitions: []api.Partition{
			{Name: "a", Period: 2, Duration: 1, Action: api.Stop, Regions: []api.Region{{Page: 0, Pages: 2, Rights: api.Change}}},
			{Name: "b", Period: 3, Duration: 1, Action: api.Ignore},
		},
		Channels: []api.Channel{{Name: "c", Source: 0, Target: 1, Kind: api.Queue, Size: 4, Depth: 2}},
	})
	expectRefused(t, "module 08;", 1, 8, api.ErrNumber)
	expectRefused(t, "module 8", 1, 9, api.ErrSyntax)
	expectRefused(t, "module 8;\nchannel c a", 2, 11, api.ErrUnknown)
}

func TestP3ReadsWhatCheckWouldRefuse(t *testing.T) {
	var text strings.Builder
	want := api.Manifest{Frame: 0}
	text.WriteString("module 0;")
	for range 20 {
		text.WriteString("partition p{period 0;duration 9;fault ignore;" + strings.Repeat("memory 0 999999 look;", 6) + "}")
		one := api.Partition{Name: "p", Duration: 9, Action: api.Ignore}
		for range 6 {
			one.Regions = append(one.Regions, api.Region{Pages: 999999, Rights: api.Look})
		}
		want.Partitions = append(want.Partitions, one)
	}
	for range 20 {
		text.WriteString("channel p p->p queue 0 0;")
		want.Channels = append(want.Channels, api.Channel{Name: "p", Kind: api.Queue})
	}
	expectRead(t, text.String(), want)
}

func TestP3Numbers(t *testing.T) {
	for text, want := range map[string]int{"0": 0, "1": 1, "9": 9, "10": 10, "100000": 100000, "999999": 999999} {
		expectRead(t, "module "+text+";", api.Manifest{Frame: want})
	}
	for _, text := range []string{"00", "01", "000000", "0000000", "012345", "1000000", "9999999", "18446744073709551617", "0x1", "0b1", "0_", "0a", "1_000", "1e5", "1a", "9z", "123456a", "12345_7", strings.Repeat("1", 17)} {
		expectRefused(t, "module "+text+";", 1, 8, api.ErrNumber)
		expectRefused(t, text, 1, 1, api.ErrNumber)
		expectRefused(t, "module 8;partition "+text+"{", 1, 20, api.ErrNumber)
	}
	expectRefused(t, "module 1A;", 1, 9, api.ErrSyntax)
	expectRefused(t, "module 1.5;", 1, 9, api.ErrSyntax)
	expectRefused(t, "module +1;", 1, 8, api.ErrSyntax)
	expectRefused(t, "module -1;", 1, 8, api.ErrSyntax)
	expectRefused(t, "module 1 000;", 1, 10, api.ErrNumber)
	expectRefused(t, "module 1 0;", 1, 10, api.ErrSyntax)
}

func TestP3Words(t *testing.T) {
	for _, name := range []string{"a", "z", "a_", "z0", "a0123456789_____", "sixteen_letters_", "module", "partition", "channel", "memory", "queue"} {
		text := "module 1;partition " + name + "{period 1;duration 1;fault stop;}channel " + name + " " + name + "->" + name + " queue 1 1;"
		expectRead(t, text, api.Manifest{
			Frame:      1,
			Partitions: []api.Partition{{Name: name, Period: 1, Duration: 1, Action: api.Stop}},
			Channels:   []api.Channel{{Name: name, Kind: api.Queue, Size: 1, Depth: 1}},
		})
	}
	const long = "seventeen_letters"
	expectRefused(t, long, 1, 1, api.ErrWord)
	expectRefused(t, strings.Repeat("a", api.MaxText), 1, 1, api.ErrWord)
	expectRefused(t, "module "+long, 1, 8, api.ErrWord)
	expectRefused(t, "module 1 "+long, 1, 10, api.ErrWord)
	expectRefused(t, "module 1;"+long, 1, 10, api.ErrWord)
	for _, other := range []string{"_a", "A", "Aa", "é", "\x00", "7", "{", "->", ";", "\"a\""} {
		expectRefused(t, "module 1;partition "+other+"{", 1, 20, api.ErrSyntax)
	}
	expectRefused(t, "module 1;partition aB{", 1, 21, api.ErrSyntax)
	expectRefused(t, "modulE 1;", 1, 1, api.ErrSyntax)
	expectRefused(t, "moduleX 1;", 1, 7, api.ErrSyntax)
	expectRefused(t, "module_ 1;", 1, 1, api.ErrSyntax)
}

func TestP3ChannelEnds(t *testing.T) {
	const head = "module 1;\npartition a { period 1; duration 1; fault stop; }\n"
	expectRefused(t, head+"channel c b", 3, 11, api.ErrUnknown)
	expectRefused(t, head+"channel c b -> 08", 3, 11, api.ErrUnknown)
	expectRefused(t, head+"channel c a -> b", 3, 16, api.ErrUnknown)
	expectRefused(t, head+"channel c a -> c", 3, 16, api.ErrUnknown)
	expectRefused(t, head+"channel c queue 1 1;", 3, 11, api.ErrUnknown)
	expectRefused(t, head+"channel c aa -> a", 3, 11, api.ErrUnknown)
	expectRefused(t, head+"channel c b -> a queue 1 1; partition b { period 1; duration 1; fault stop; }", 3, 11, api.ErrUnknown)
	expectRefused(t, head+"channel c 1 -> a", 3, 11, api.ErrSyntax)
	expectRefused(t, head+"channel c 01 -> a", 3, 11, api.ErrNumber)
	expectRefused(t, head+"channel c seventeen_letters", 3, 11, api.ErrWord)
	expectRefused(t, head+"channel c -> a", 3, 11, api.ErrSyntax)
	expectRefused(t, head+"channel c", 3, 10, api.ErrSyntax)
	expectRefused(t, head+"channel c a - > a", 3, 13, api.ErrSyntax)
	expectRefused(t, head+"channel c a > a", 3, 13, api.ErrSyntax)
	expectRefused(t, head+"channel c a -", 3, 13, api.ErrSyntax)
	expectRefused(t, head+"channel c a -> -> a", 3, 16, api.ErrSyntax)
	expectRefused(t, head+"channel b c a -> a", 3, 11, api.ErrUnknown)
}

func TestP3Places(t *testing.T) {
	expectRefused(t, "", 1, 1, api.ErrSyntax)
	expectRefused(t, " ", 1, 2, api.ErrSyntax)
	expectRefused(t, "\n", 2, 1, api.ErrSyntax)
	expectRefused(t, "\n\n\n  ", 4, 3, api.ErrSyntax)
	expectRefused(t, "#", 1, 2, api.ErrSyntax)
	expectRefused(t, "# module 8;", 1, 12, api.ErrSyntax)
	expectRefused(t, "#\n", 2, 1, api.ErrSyntax)
	expectRefused(t, "module#8;\n", 2, 1, api.ErrSyntax)
	expectRefused(t, "module 8\n", 2, 1, api.ErrSyntax)
	expectRefused(t, "module 8 # ;", 1, 13, api.ErrSyntax)
	expectRefused(t, "module 8; # é é\n  x", 2, 3, api.ErrSyntax)
	expectRefused(t, "module 8;\r\n", 1, 10, api.ErrSyntax)
	expectRefused(t, "# a\rmodule 8;", 1, 14, api.ErrSyntax)
	expectRefused(t, "module\t8;", 1, 7, api.ErrSyntax)
	expectRefused(t, "module\v8;", 1, 7, api.ErrSyntax)
	expectRefused(t, "module\x008;", 1, 7, api.ErrSyntax)
	expectRefused(t, "\ufeffmodule 8;", 1, 1, api.ErrSyntax)
	expectRefused(t, "module 8; \u00a0", 1, 11, api.ErrSyntax)
	expectRefused(t, "module 8;\n\xff", 2, 1, api.ErrSyntax)
}

func TestP3TextLength(t *testing.T) {
	const text = "module 7;"
	for _, filler := range []string{" ", "\n", "#", "# x"} {
		full := text + strings.Repeat(filler, api.MaxText)
		expectRead(t, full[:api.MaxText-1], api.Manifest{Frame: 7})
		expectRead(t, full[:api.MaxText], api.Manifest{Frame: 7})
		expectRefused(t, full[:api.MaxText+1], 0, 0, api.ErrSize)
	}
	expectRefused(t, strings.Repeat("8", api.MaxText), 1, 1, api.ErrNumber)
	expectRefused(t, strings.Repeat("8", api.MaxText+1), 0, 0, api.ErrSize)
	expectRefused(t, strings.Repeat("\n", api.MaxText), api.MaxText+1, 1, api.ErrSyntax)
	expectRefused(t, strings.Repeat(" ", api.MaxText), 1, api.MaxText+1, api.ErrSyntax)
	expectRefused(t, strings.Repeat("x", 1<<24), 0, 0, api.ErrSize)
}
