package image

import (
	"math/rand"
	"reflect"
	"testing"

	"bulkhead/api"
)

// small is what Read answers of the image that body has, but for the checksum.
func small() (api.Manifest, []int) {
	return api.Manifest{
		Frame: 3,
		Partitions: []api.Partition{
			{Action: api.Stop, Regions: []api.Region{{Page: 5, Pages: 2, Rights: api.Change}, {Page: 0, Pages: 1, Rights: api.Look}}},
			{Action: api.Restart},
		},
		Channels: []api.Channel{{Source: 1, Target: 0, Kind: api.Sample, Size: 32, Depth: 3}},
	}, []int{0, 1, -1}
}

func body() []byte {
	return []byte{255, 3, 1, 2, 0, 2, 2, 2, 5, 2, 2, 0, 1, 1, 3, 0, 1, 1, 0, 2, 32, 3}
}

func sealed(body []byte) string { return string(appendChecksum(body)) }

func isRefused(m api.Manifest, plan []int, ok bool) bool {
	return !ok && len(plan) == 0 && reflect.DeepEqual(m, api.Manifest{})
}

func expectRefused(t *testing.T, what, image string) {
	t.Helper()
	if m, plan, ok := Read(image); !isRefused(m, plan, ok) {
		t.Errorf("%s: Read(%v) = %+v, %v, %v", what, []byte(image), m, plan, ok)
	}
}

func expectWritten(t *testing.T, wantManifest api.Manifest, wantPlan []int) {
	t.Helper()
	image := Write(wantManifest, wantPlan)
	if m, plan, ok := Read(image); !ok || !reflect.DeepEqual(m, wantManifest) || !reflect.DeepEqual(plan, wantPlan) {
		t.Errorf("Read(%v) = %+v, %v, %v, want %+v, %v", []byte(image), m, plan, ok, wantManifest, wantPlan)
	}
}

func TestReadAnswersWhatWasWritten(t *testing.T) {
	m, plan := small()
	if Write(m, plan) != sealed(body()) {
		t.Fatalf("Write = %v, want %v", []byte(Write(m, plan)), []byte(sealed(body())))
	}
	expectWritten(t, m, plan)
	expectWritten(t, api.Manifest{Frame: 1, Partitions: []api.Partition{{Action: api.Ignore}}}, []int{0})
	greatest := api.Manifest{Frame: api.MaxFrame}
	plan = make([]int, api.MaxFrame)
	for i := range plan {
		plan[i] = i%9 - 1
	}
	for i := range api.MaxPartitions {
		one := api.Partition{Action: 1 + i%3}
		for j := range api.MaxRegions {
			one.Regions = append(one.Regions, api.Region{Page: 62 - 2*j, Pages: 2, Rights: 1 + j%2})
		}
		greatest.Partitions = append(greatest.Partitions, one)
		greatest.Channels = append(greatest.Channels, api.Channel{Source: i, Target: (i + 1) % 8, Kind: 1 + i%2, Size: 32, Depth: 8 + i%2*232})
	}
	expectWritten(t, greatest, plan)
}

// Names, periods and durations do not come back.
func TestReadLeavesOut(t *testing.T) {
	m, plan := small()
	named, _ := small()
	named.Partitions[0].Name, named.Partitions[0].Period, named.Partitions[0].Duration = "a", 3, 1
	named.Channels[0].Name = "c"
	if got, _, ok := Read(Write(named, plan)); !ok || !reflect.DeepEqual(got, m) {
		t.Errorf("Read = %+v, %v, want %+v", got, ok, m)
	}
}

func TestReadRefusesWrongNumbers(t *testing.T) {
	for _, one := range []struct {
		what string
		make func(m *api.Manifest, plan []int) []int
	}{
		{"no tick", func(m *api.Manifest, plan []int) []int { return nil }},
		{"241 ticks", func(m *api.Manifest, plan []int) []int { return append(plan, make([]int, 238)...) }},
		{"a strange partition in the plan", func(m *api.Manifest, plan []int) []int { return []int{0, 1, 2} }},
		{"a partition far off in the plan", func(m *api.Manifest, plan []int) []int { return []int{0, 1, 254} }},
		{"a partition that never runs", func(m *api.Manifest, plan []int) []int { return []int{0, 0, -1} }},
		{"no partition", func(m *api.Manifest, plan []int) []int { m.Partitions, m.Channels = nil, nil; return []int{-1} }},
		{"9 partitions", func(m *api.Manifest, plan []int) []int {
			m.Partitions = make([]api.Partition, 9)
			for i := range m.Partitions {
				m.Partitions[i].Action = api.Stop
			}
			return []int{0, 1, 2, 3, 4, 5, 6, 7, 8}
		}},
		{"action 0", func(m *api.Manifest, plan []int) []int { m.Partitions[1].Action = 0; return plan }},
		{"action 4", func(m *api.Manifest, plan []int) []int { m.Partitions[1].Action = 4; return plan }},
		{"5 regions", func(m *api.Manifest, plan []int) []int {
			for page := range 5 {
				m.Partitions[1].Regions = append(m.Partitions[1].Regions, api.Region{Page: page, Pages: 1, Rights: api.Look})
			}
			return plan
		}},
		{"no page", func(m *api.Manifest, plan []int) []int { m.Partitions[0].Regions[1].Pages = 0; return plan }},
		{"pages behind the last one", func(m *api.Manifest, plan []int) []int { m.Partitions[0].Regions[0].Page = 63; return plan }},
		{"no rights", func(m *api.Manifest, plan []int) []int { m.Partitions[0].Regions[0].Rights = 0; return plan }},
		{"rights 3", func(m *api.Manifest, plan []int) []int { m.Partitions[0].Regions[0].Rights = 3; return plan }},
		{"a page in two regions", func(m *api.Manifest, plan []int) []int { m.Partitions[0].Regions[1].Page = 6; return plan }},
		{"65 pages", func(m *api.Manifest, plan []int) []int {
			m.Partitions[1].Regions = []api.Region{{Page: 0, Pages: 62, Rights: api.Look}}
			return plan
		}},
		{"9 channels", func(m *api.Manifest, plan []int) []int {
			for range 8 {
				m.Channels = append(m.Channels, m.Channels[0])
			}
			return plan
		}},
		{"source 2", func(m *api.Manifest, plan []int) []int { m.Channels[0].Source = 2; return plan }},
		{"target 255", func(m *api.Manifest, plan []int) []int { m.Channels[0].Target = 255; return plan }},
		{"the same ends", func(m *api.Manifest, plan []int) []int { m.Channels[0].Target = 1; return plan }},
		{"kind 0", func(m *api.Manifest, plan []int) []int { m.Channels[0].Kind = 0; return plan }},
		{"kind 3", func(m *api.Manifest, plan []int) []int { m.Channels[0].Kind = 3; return plan }},
		{"size 0", func(m *api.Manifest, plan []int) []int { m.Channels[0].Size = 0; return plan }},
		{"size 33", func(m *api.Manifest, plan []int) []int { m.Channels[0].Size = 33; return plan }},
		{"depth 0", func(m *api.Manifest, plan []int) []int { m.Channels[0].Depth = 0; return plan }},
		{"a sample's depth above the frame", func(m *api.Manifest, plan []int) []int { m.Channels[0].Depth = 4; return plan }},
		{"a queue's depth 9", func(m *api.Manifest, plan []int) []int {
			m.Channels[0].Kind, m.Channels[0].Depth = api.Queue, 9
			return append(plan, -1, -1, -1, -1, -1, -1, -1)
		}},
	} {
		m, plan := small()
		plan = one.make(&m, plan)
		expectRefused(t, one.what, Write(m, plan))
	}
}

func TestReadRefusesOtherForms(t *testing.T) {
	image := sealed(body())
	for end := range len(image) {
		expectRefused(t, "a cut image", image[:end])
		expectRefused(t, "an image without its head", image[end+1:])
	}
	for end := range body() {
		expectRefused(t, "a cut and sealed body", sealed(body()[:end]))
	}
	expectRefused(t, "a byte behind", image+"\x00")
	expectRefused(t, "a sealed byte behind", sealed(append(body(), 0)))
	expectRefused(t, "a sealed image", sealed([]byte(image)))
	expectRefused(t, "the checksum the other way round", image[:len(image)-4]+reversed(image[len(image)-4:]))
	for mark := range 255 {
		other := body()
		other[0] = byte(mark)
		expectRefused(t, "another mark", sealed(other))
	}
}

func reversed(text string) string {
	var bytes []byte
	for i := range len(text) {
		bytes = append(bytes, text[len(text)-1-i])
	}
	return string(bytes)
}

func TestReadRefusesOtherChecksums(t *testing.T) {
	image := []byte(sealed(body()))
	r := rand.New(rand.NewSource(1))
	for range 10000 {
		other := append([]byte{}, image...)
		other[len(other)-1-r.Intn(4)] ^= byte(1 + r.Intn(255))
		expectRefused(t, "another checksum", string(other))
	}
}

// Counts that go beyond what is there, in an image of any length, let Read come to an end.
func TestReadEnds(t *testing.T) {
	for _, length := range []int{0, 1, 2, 3, 300, 70000, 300000} {
		for _, b := range []byte{0, 1, 254, 255} {
			bytes := make([]byte, length)
			for i := range bytes {
				bytes[i] = b
			}
			if m, plan, ok := Read(sealed(append([]byte{255}, bytes...))); !isRefused(m, plan, ok) {
				t.Errorf("%d times %d: Read = %+v, %v, %v", length, b, m, plan, ok)
			}
		}
	}
}
