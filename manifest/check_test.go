package manifest_test

import (
	"math"
	"strconv"
	"strings"
	"testing"

	"bulkhead/api"
	"bulkhead/manifest"
)

// turn is a change of a manifest, and what Check answers of it.
type turn struct {
	name   string
	change func(m *api.Manifest)
	want   api.Errno
}

// sound is right, and has a partition, a region and a channel ahead of and behind
// the ones that the turns change.
func sound() api.Manifest {
	return api.Manifest{
		Frame: 12,
		Partitions: []api.Partition{
			{Name: "a", Period: 12, Duration: 2, Action: api.Stop, Regions: []api.Region{{Page: 0, Pages: 2, Rights: api.Change}}},
			{Name: "b", Period: 6, Duration: 2, Action: api.Ignore, Regions: []api.Region{{Page: 10, Pages: 4, Rights: api.Look}, {Page: 20, Pages: 4, Rights: api.Change}, {Page: 30, Pages: 4, Rights: api.Look}}},
			{Name: "c", Period: 4, Duration: 1, Action: api.Restart, Regions: []api.Region{{Page: 10, Pages: 8, Rights: api.Look}}},
		},
		Channels: []api.Channel{
			{Name: "a", Source: 0, Target: 1, Kind: api.Queue, Size: 4, Depth: 2},
			{Name: "x", Source: 1, Target: 2, Kind: api.Queue, Size: 4, Depth: 2},
			{Name: "y", Source: 2, Target: 0, Kind: api.Sample, Size: 4, Depth: 10},
		},
	}
}

// idle is a partition that is right with a frame of any length.
func idle(name string, frame int) api.Partition {
	return api.Partition{Name: name, Period: frame, Duration: 1, Action: api.Ignore}
}

func soundTurns() []turn {
	return []turn{
		{"no change", func(m *api.Manifest) {}, api.OK},
		{"frame 1", func(m *api.Manifest) {
			*m = api.Manifest{Frame: 1, Partitions: []api.Partition{idle("a", 1)}}
		}, api.OK},
		{"frame 240", func(m *api.Manifest) { m.Frame = 240 }, api.OK},
		{"8 partitions", func(m *api.Manifest) { m.Partitions, m.Channels = idles(8), nil }, api.OK},
		{"8 channels", func(m *api.Manifest) { m.Channels = channels(8) }, api.OK},
		{"no channel", func(m *api.Manifest) { m.Channels = []api.Channel{} }, api.OK},
		{"4 regions", func(m *api.Manifest) {
			m.Partitions[1].Regions = append(m.Partitions[1].Regions, api.Region{Page: 40, Pages: 1, Rights: api.Look})
		}, api.OK},
		{"no region", func(m *api.Manifest) { m.Partitions[1].Regions = nil }, api.OK},
		{"a partition like a channel", func(m *api.Manifest) { m.Partitions[1].Name = "x" }, api.OK},
		{"the period is the frame", func(m *api.Manifest) { m.Partitions[1].Period = 12 }, api.OK},
		{"regions that touch", func(m *api.Manifest) {
			m.Partitions[1].Regions = []api.Region{{Page: 10, Pages: 4, Rights: api.Look}, {Page: 14, Pages: 1, Rights: api.Look}, {Page: 9, Pages: 1, Rights: api.Look}}
		}, api.OK},
		{"a region up to the last page", func(m *api.Manifest) { m.Partitions[1].Regions[1] = api.Region{Page: 63, Pages: 1, Rights: api.Look} }, api.OK},
		{"a region of another partition's pages", func(m *api.Manifest) { m.Partitions[1].Regions[0] = api.Region{Page: 0, Pages: 2, Rights: api.Look} }, api.OK},
		{"all pages in one region", func(m *api.Manifest) { onePartitionHas(m, api.Region{Page: 0, Pages: 64, Rights: api.Look}) }, api.OK},
		{"a sample's depth of the frame", func(m *api.Manifest) { m.Channels[2].Depth = 12 }, api.OK},
		{"a full frame", func(m *api.Manifest) { m.Partitions[0].Duration = 5 }, api.OK},
		{"a full machine", func(m *api.Manifest) { m.Partitions[0].Regions[0].Pages = 44 }, api.OK},
	}
}

func listTurns() []turn {
	return []turn{
		{"frame 0", func(m *api.Manifest) { m.Frame = 0 }, api.ErrFrame},
		{"frame -1", func(m *api.Manifest) { m.Frame = -1 }, api.ErrFrame},
		{"frame 241", func(m *api.Manifest) { m.Frame = 241 }, api.ErrFrame},
		{"the greatest frame", func(m *api.Manifest) { m.Frame = math.MaxInt }, api.ErrFrame},
		{"no partition", func(m *api.Manifest) { m.Partitions = nil }, api.ErrMany},
		{"an empty list of partitions", func(m *api.Manifest) { m.Partitions = m.Partitions[:0] }, api.ErrMany},
		{"9 partitions", func(m *api.Manifest) { m.Partitions = idles(9) }, api.ErrMany},
		{"9 channels", func(m *api.Manifest) { m.Channels = channels(9) }, api.ErrMany},
		{"5 regions", func(m *api.Manifest) {
			m.Partitions[2].Regions = []api.Region{{Page: 0, Pages: 1, Rights: 1}, {Page: 1, Pages: 1, Rights: 1}, {Page: 2, Pages: 1, Rights: 1}, {Page: 3, Pages: 1, Rights: 1}, {Page: 4, Pages: 1, Rights: 1}}
		}, api.ErrMany},
	}
}

func partitionTurns() []turn {
	all := []turn{
		{"the name of one ahead", func(m *api.Manifest) { m.Partitions[1].Name = "a" }, api.ErrName},
		{"the name of the first, far behind", func(m *api.Manifest) { m.Partitions[2].Name = "a" }, api.ErrName},
		{"action 0", func(m *api.Manifest) { m.Partitions[1].Action = 0 }, api.ErrAction},
		{"action 4", func(m *api.Manifest) { m.Partitions[1].Action = 4 }, api.ErrAction},
		{"action -1", func(m *api.Manifest) { m.Partitions[1].Action = -1 }, api.ErrAction},
		{"duration above the period", func(m *api.Manifest) { m.Partitions[1].Duration = 7 }, api.ErrDuration},
		{"duration 0", func(m *api.Manifest) { m.Partitions[1].Duration = 0 }, api.ErrDuration},
		{"duration below 0", func(m *api.Manifest) { m.Partitions[1].Duration = math.MinInt }, api.ErrDuration},
	}
	for _, period := range []int{math.MinInt, -12, -6, -1, 0, 5, 7, 8, 9, 10, 11, 13, 24, math.MaxInt} {
		all = append(all, turn{"period " + strconv.Itoa(period), func(m *api.Manifest) { m.Partitions[1].Period = period }, api.ErrPeriod})
	}
	return all
}

func regionTurns() []turn {
	var all []turn
	for _, one := range []api.Region{
		{Page: -1, Pages: 2, Rights: 1}, {Page: math.MinInt, Pages: 1, Rights: 1}, {Page: -1, Pages: math.MaxInt, Rights: 1},
		{Page: 40, Pages: 0, Rights: 1}, {Page: 40, Pages: -1, Rights: 1}, {Page: 0, Pages: math.MinInt, Rights: 1}, {Page: math.MaxInt, Pages: math.MinInt, Rights: 1},
		{Page: 63, Pages: 2, Rights: 1}, {Page: 64, Pages: 1, Rights: 1}, {Page: 0, Pages: 65, Rights: 1}, {Page: math.MaxInt, Pages: 1, Rights: 1}, {Page: 1, Pages: math.MaxInt, Rights: 1}, {Page: math.MaxInt, Pages: math.MaxInt, Rights: 1},
		{Page: 40, Pages: 1, Rights: 0}, {Page: 40, Pages: 1, Rights: 3}, {Page: 40, Pages: 1, Rights: -1},
		{Page: 10, Pages: 4, Rights: 1}, {Page: 7, Pages: 4, Rights: 1}, {Page: 13, Pages: 4, Rights: 1}, {Page: 11, Pages: 2, Rights: 2}, {Page: 9, Pages: 6, Rights: 1}, {Page: 27, Pages: 4, Rights: 1},
	} {
		name := "region " + strconv.Itoa(one.Page) + " " + strconv.Itoa(one.Pages) + " " + strconv.Itoa(one.Rights)
		all = append(all, turn{name, func(m *api.Manifest) { m.Partitions[1].Regions[1] = one }, api.ErrRegion})
	}
	return all
}

func channelTurns() []turn {
	return []turn{
		{"a channel's name of one ahead", func(m *api.Manifest) { m.Channels[1].Name = "a" }, api.ErrName},
		{"a channel's name of the first, far behind", func(m *api.Manifest) { m.Channels[2].Name = "a" }, api.ErrName},
		{"source -1", func(m *api.Manifest) { m.Channels[1].Source = -1 }, api.ErrEnd},
		{"source 3", func(m *api.Manifest) { m.Channels[1].Source = 3 }, api.ErrEnd},
		{"target -1", func(m *api.Manifest) { m.Channels[1].Target = math.MinInt }, api.ErrEnd},
		{"target 3", func(m *api.Manifest) { m.Channels[1].Target = 3 }, api.ErrEnd},
		{"target like source", func(m *api.Manifest) { m.Channels[1].Target = 1 }, api.ErrEnd},
		{"kind 0", func(m *api.Manifest) { m.Channels[1].Kind = 0 }, api.ErrKind},
		{"kind 3", func(m *api.Manifest) { m.Channels[1].Kind = 3 }, api.ErrKind},
		{"size 0", func(m *api.Manifest) { m.Channels[1].Size = 0 }, api.ErrSize},
		{"size 33", func(m *api.Manifest) { m.Channels[1].Size = 33 }, api.ErrSize},
		{"size -1", func(m *api.Manifest) { m.Channels[1].Size = -1 }, api.ErrSize},
		{"depth 0", func(m *api.Manifest) { m.Channels[1].Depth = 0 }, api.ErrDepth},
		{"a queue's depth 9", func(m *api.Manifest) { m.Channels[1].Depth = 9 }, api.ErrDepth},
		{"a sample's depth 0", func(m *api.Manifest) { m.Channels[2].Depth = 0 }, api.ErrDepth},
		{"a sample's depth above the frame", func(m *api.Manifest) { m.Channels[2].Depth = 13 }, api.ErrDepth},
	}
}

func sumTurns() []turn {
	return []turn{
		{"a frame and one tick", func(m *api.Manifest) { m.Partitions[0].Duration = 6 }, api.ErrLoad},
		{"too often", func(m *api.Manifest) { m.Partitions[2].Period = 1 }, api.ErrLoad},
		{"a machine and one page", func(m *api.Manifest) { m.Partitions[0].Regions[0].Pages = 45 }, api.ErrMemory},
		{"pages that are named twice", func(m *api.Manifest) { onePartitionHas(m, api.Region{Page: 0, Pages: 57, Rights: api.Look}) }, api.ErrMemory},
	}
}

// wrongTurns stand in the order in which P4 names what they do.
func wrongTurns() []turn {
	all := append(listTurns(), partitionTurns()...)
	all = append(all, regionTurns()...)
	all = append(all, channelTurns()...)
	return append(all, sumTurns()...)
}

func idles(count int) []api.Partition {
	var all []api.Partition
	for i := range count {
		all = append(all, idle("p"+strconv.Itoa(i), 12))
	}
	return all
}

func channels(count int) []api.Channel {
	var all []api.Channel
	for i := range count {
		all = append(all, api.Channel{Name: "c" + strconv.Itoa(i), Source: 1, Target: 0, Kind: api.Queue, Size: 1, Depth: 1})
	}
	return all
}

// onePartitionHas leaves the last partition its pages, unless region takes all there are.
func onePartitionHas(m *api.Manifest, region api.Region) {
	m.Partitions[0].Regions, m.Partitions[1].Regions = nil, []api.Region{region}
	if region.Pages == api.MaxPage {
		m.Partitions[2].Regions = nil
	}
}

func expectChecked(t *testing.T, name string, m api.Manifest, want api.Errno) {
	t.Helper()
	if e := manifest.Check(m); e != want {
		t.Errorf("%s: Check(%+v) = %d, want %d", name, m, e, want)
	}
	if text, e := manifest.Print(m); e != want || (text == "") != (want != api.OK) {
		t.Errorf("%s: Print(%+v) = %q, %d, want %d", name, m, text, e, want)
	}
}

func TestP4Edges(t *testing.T) {
	for _, one := range append(soundTurns(), wrongTurns()...) {
		m := sound()
		one.change(&m)
		expectChecked(t, one.name, m, one.want)
	}
}

func TestP4Names(t *testing.T) {
	for name, want := range map[string]api.Errno{
		"q": api.OK, "z": api.OK, "q_": api.OK, "q0": api.OK, "z9_": api.OK, "module": api.OK, "sixteen_letters_": api.OK,
		"": api.ErrName, "_": api.ErrName, "_q": api.ErrName, "0": api.ErrName, "9q": api.ErrName, "Q": api.ErrName, "qQ": api.ErrName,
		"q ": api.ErrName, " q": api.ErrName, "q\n": api.ErrName, "q-": api.ErrName, "q\x00": api.ErrName, "é": api.ErrName, "qé": api.ErrName,
		"q{": api.ErrName, "`": api.ErrName, "{": api.ErrName, "q/": api.ErrName, "q:": api.ErrName,
		"seventeen_letters": api.ErrName, strings.Repeat("q", 1<<20): api.ErrName,
	} {
		m := sound()
		m.Partitions[1].Name = name
		expectChecked(t, "a partition's name", m, want)
		m = sound()
		m.Channels[1].Name = name
		expectChecked(t, "a channel's name", m, want)
	}
}

// kindsInTurn are what one partition, and what one channel is asked for, in turn.
func kindsInTurn() ([]turn, []turn) {
	partition := []turn{
		{"name", func(m *api.Manifest) { m.Partitions[1].Name = "" }, api.ErrName},
		{"period", func(m *api.Manifest) { m.Partitions[1].Period = 0 }, api.ErrPeriod},
		{"duration", func(m *api.Manifest) { m.Partitions[1].Duration = 0 }, api.ErrDuration},
		{"action", func(m *api.Manifest) { m.Partitions[1].Action = 0 }, api.ErrAction},
		{"region", func(m *api.Manifest) { m.Partitions[1].Regions[2].Rights = 0 }, api.ErrRegion},
	}
	channel := []turn{
		{"name", func(m *api.Manifest) { m.Channels[1].Name = "" }, api.ErrName},
		{"end", func(m *api.Manifest) { m.Channels[1].Target = 1 }, api.ErrEnd},
		{"kind", func(m *api.Manifest) { m.Channels[1].Kind = 0 }, api.ErrKind},
		{"size", func(m *api.Manifest) { m.Channels[1].Size = 0 }, api.ErrSize},
		{"depth", func(m *api.Manifest) { m.Channels[1].Depth = 0 }, api.ErrDepth},
	}
	return partition, channel
}

func TestP4FirstErrorCounts(t *testing.T) {
	partition, channel := kindsInTurn()
	inOrder := []turn{
		{"frame", func(m *api.Manifest) { m.Frame = 0 }, api.ErrFrame},
		{"many", func(m *api.Manifest) { m.Partitions[2].Regions = make([]api.Region, 5) }, api.ErrMany},
		{"first partition", func(m *api.Manifest) { m.Partitions[0].Regions[0].Pages = 0 }, api.ErrRegion},
	}
	inOrder = append(inOrder, partition...)
	inOrder = append(inOrder,
		turn{"last partition", func(m *api.Manifest) { m.Partitions[2].Name = "a" }, api.ErrName},
		turn{"first channel", func(m *api.Manifest) { m.Channels[0].Depth = 0 }, api.ErrDepth})
	inOrder = append(inOrder, channel...)
	inOrder = append(inOrder,
		turn{"last channel", func(m *api.Manifest) { m.Channels[2].Name = "a" }, api.ErrName},
		turn{"load", func(m *api.Manifest) { m.Partitions[2].Duration = 4 }, api.ErrLoad},
		turn{"memory", func(m *api.Manifest) { m.Partitions[2].Regions[0] = api.Region{Page: 0, Pages: 64, Rights: 1} }, api.ErrMemory})
	for i, first := range inOrder {
		for _, second := range inOrder[i:] {
			m := sound()
			first.change(&m)
			second.change(&m)
			expectChecked(t, first.name+" and "+second.name, m, first.want)
		}
	}
}
