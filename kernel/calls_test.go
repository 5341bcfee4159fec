package kernel_test

import (
	"math"
	"math/rand"
	"slices"
	"strconv"
	"strings"
	"testing"

	"bulkhead/api"
	"bulkhead/build"
	"bulkhead/kernel"
	"bulkhead/manifest"
)

// oddNumbers are no places of anything, or the greatest and least ones.
var oddNumbers = []int{math.MinInt, math.MinInt + 1, -4096, -1, 8, 9, 255, 256, 4096, 1 << 32, math.MaxInt - 1, math.MaxInt}

// machine is a kernel, or what stands for one in a test.
type machine interface {
	Tick()
	Running() int
	Read(p int, address int) (int, api.Errno)
	Write(p int, address int, b int) api.Errno
	Send(p int, channel int, message string) api.Errno
	Receive(p int, channel int) (string, bool, api.Errno)
	Raise(p int) api.Errno
	State(p int) (api.State, api.Errno)
}

func parsed(t *testing.T, text string) api.Manifest {
	t.Helper()
	m, place, e := manifest.Parse(text)
	if e != api.OK {
		t.Fatalf("Parse(%q) = %v, %d", text, place, e)
	}
	return m
}

func imageOf(t *testing.T, m api.Manifest) string {
	t.Helper()
	image, e := build.Compile(m)
	if e != api.OK {
		t.Fatalf("Compile(%+v) = %d", m, e)
	}
	return image
}

func boot(t *testing.T, m api.Manifest) *kernel.Kernel {
	t.Helper()
	k, e := kernel.Boot(imageOf(t, m))
	if k == nil || e != api.OK {
		t.Fatalf("Boot of the image of %+v = %v, %d", m, k, e)
	}
	return k
}

func bootText(t *testing.T, text string) *kernel.Kernel {
	t.Helper()
	return boot(t, parsed(t, text))
}

func ticks(k machine, count int) {
	for range count {
		k.Tick()
	}
}

func expectErrno(t *testing.T, what string, got, want api.Errno) {
	t.Helper()
	if got != want {
		t.Fatalf("%s = %d, want %d", what, got, want)
	}
}

func expectRuns(t *testing.T, k machine, want int) {
	t.Helper()
	if p := k.Running(); p != want {
		t.Fatalf("Running() = %d, want %d", p, want)
	}
}

func expectRead(t *testing.T, k machine, p, address, want int, wantErrno api.Errno) {
	t.Helper()
	if b, e := k.Read(p, address); b != want || e != wantErrno {
		t.Fatalf("Read(%d, %d) = %d, %d, want %d, %d", p, address, b, e, want, wantErrno)
	}
}

func expectWrite(t *testing.T, k machine, p, address, b int, want api.Errno) {
	t.Helper()
	if e := k.Write(p, address, b); e != want {
		t.Fatalf("Write(%d, %d, %d) = %d, want %d", p, address, b, e, want)
	}
}

func expectSend(t *testing.T, k machine, p, channel int, message string, want api.Errno) {
	t.Helper()
	if e := k.Send(p, channel, message); e != want {
		t.Fatalf("Send(%d, %d, %q) = %d, want %d", p, channel, message, e, want)
	}
}

func expectMessage(t *testing.T, k machine, p, channel int, want string, wantFresh bool) {
	t.Helper()
	if message, fresh, e := k.Receive(p, channel); message != want || fresh != wantFresh || e != api.OK {
		t.Fatalf("Receive(%d, %d) = %q, %v, %d, want %q, %v", p, channel, message, fresh, e, want, wantFresh)
	}
}

func expectNoMessage(t *testing.T, k machine, p, channel int, want api.Errno) {
	t.Helper()
	if message, fresh, e := k.Receive(p, channel); message != "" || fresh || e != want {
		t.Fatalf("Receive(%d, %d) = %q, %v, %d, want %d", p, channel, message, fresh, e, want)
	}
}

func expectState(t *testing.T, k machine, p int, want api.State) {
	t.Helper()
	if state, e := k.State(p); state != want || e != api.OK {
		t.Fatalf("State(%d) = %+v, %d, want %+v", p, state, e, want)
	}
}

// call is one call of a method, with its arguments.
type call struct {
	method  string
	p, n, b int // n is an address or a channel
	message string
}

// answer has what any of the methods may answer.
type answer struct {
	number  int
	message string
	fresh   bool
	state   api.State
	e       api.Errno
}

func (c call) on(k machine) answer {
	var a answer
	switch c.method {
	case "Tick":
		k.Tick()
	case "Running":
		a.number = k.Running()
	case "Read":
		a.number, a.e = k.Read(c.p, c.n)
	case "Write":
		a.e = k.Write(c.p, c.n, c.b)
	case "Send":
		a.e = k.Send(c.p, c.n, c.message)
	case "Receive":
		a.message, a.fresh, a.e = k.Receive(c.p, c.n)
	case "Raise":
		a.e = k.Raise(c.p)
	case "State":
		a.state, a.e = k.State(c.p)
	}
	return a
}

// drawnManifest is right, and small enough for its partitions to meet each other often.
func drawnManifest(r *rand.Rand) api.Manifest {
	m := api.Manifest{Frame: []int{1, 2, 3, 4, 6, 8, 12, 24}[r.Intn(8)]}
	free := m.Frame
	for i := range 1 + r.Intn(8) {
		period := m.Frame
		if half := m.Frame / 2; m.Frame%2 == 0 && r.Intn(2) == 0 {
			period = half
		}
		times := m.Frame / period
		if free < times {
			continue
		}
		duration := 1 + r.Intn(min(2, free/times, period))
		free -= duration * times
		m.Partitions = append(m.Partitions, api.Partition{Name: "p" + strconv.Itoa(i), Period: period, Duration: duration, Action: 1 + r.Intn(3), Regions: drawnRegions(r)})
	}
	if len(m.Partitions) == 0 {
		m.Partitions = []api.Partition{{Name: "only", Period: m.Frame, Duration: 1, Action: 1 + r.Intn(3), Regions: drawnRegions(r)}}
	}
	if len(m.Partitions) > 1 {
		m.Channels = drawnChannels(r, len(m.Partitions), m.Frame)
	}
	return m
}

// drawnRegions are at most 8 pages, so that 8 partitions may have them.
func drawnRegions(r *rand.Rand) []api.Region {
	var regions []api.Region
	page := r.Intn(3) * 20
	for range r.Intn(5) {
		page += r.Intn(3)
		pages := 1 + r.Intn(2)
		regions = append(regions, api.Region{Page: page, Pages: pages, Rights: 1 + r.Intn(2)})
		page += pages
	}
	r.Shuffle(len(regions), func(i, j int) { regions[i], regions[j] = regions[j], regions[i] })
	return regions
}

func drawnChannels(r *rand.Rand, partitions, frame int) []api.Channel {
	var channels []api.Channel
	for i := range r.Intn(api.MaxChannels + 1) {
		source := r.Intn(partitions)
		target := (source + 1 + r.Intn(partitions-1)) % partitions
		one := api.Channel{Name: "c" + strconv.Itoa(i), Source: source, Target: target, Kind: 1 + r.Intn(2), Size: 1 + r.Intn(4), Depth: 1 + r.Intn(3)}
		if one.Kind == api.Sample {
			one.Depth = 1 + r.Intn(frame)
		}
		channels = append(channels, one)
	}
	return channels
}

// drawnCall is mostly one that p may make.
func drawnCall(r *rand.Rand, m api.Manifest, p int) call {
	c := call{p: p, b: r.Intn(1000) - 500}
	switch r.Intn(16) {
	case 0:
		c.method = "Raise"
	case 1, 2:
		c.method = "State"
	case 3, 4, 5:
		c.method, c.n = "Read", drawnAddress(r, m, p)
	case 6, 7, 8:
		c.method, c.n = "Write", drawnAddress(r, m, p)
	case 9, 10, 11, 12:
		c.method, c.n = "Send", drawnChannel(r, m, p, func(one api.Channel) int { return one.Source })
		c.message = strings.Repeat(string(rune('a'+r.Intn(26))), r.Intn(4))
	default:
		c.method, c.n = "Receive", drawnChannel(r, m, p, func(one api.Channel) int { return one.Target })
	}
	return c
}

// drawnAddress is mostly at the edges of p's regions.
func drawnAddress(r *rand.Rand, m api.Manifest, p int) int {
	if p < 0 || p >= len(m.Partitions) || len(m.Partitions[p].Regions) == 0 || r.Intn(40) == 0 {
		return append(oddNumbers, r.Intn(4200)-50)[r.Intn(len(oddNumbers)+1)]
	}
	regions := m.Partitions[p].Regions
	one := regions[r.Intn(len(regions))]
	first, end := one.Page*api.PageSize, (one.Page+one.Pages)*api.PageSize
	if r.Intn(40) == 0 {
		return []int{first - 1, end}[r.Intn(2)]
	}
	return []int{first, first + 1, end - 1, first + api.PageSize - 1}[r.Intn(4)]
}

// drawnChannel is mostly one of which p is that end.
func drawnChannel(r *rand.Rand, m api.Manifest, p int, end func(api.Channel) int) int {
	var its []int
	for place, one := range m.Channels {
		if end(one) == p {
			its = append(its, place)
		}
	}
	if len(its) == 0 || r.Intn(20) == 0 {
		return slices.Concat(oddNumbers, []int{0, 1, 2, 3})[r.Intn(len(oddNumbers)+4)]
	}
	return its[r.Intn(len(its))]
}
