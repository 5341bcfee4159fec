package kernel_test

import (
	"hash/crc32"
	"math/rand"
	"slices"
	"strconv"
	"strings"
	"testing"

	"bulkhead/api"
	"bulkhead/build"
	"bulkhead/kernel"
)

const example = `module 6;
partition a { period 2; duration 1; fault stop; memory 0 2 change; }
partition b { period 3; duration 1; fault ignore; }
channel c a -> b queue 4 2;`

// largest has as much of everything as a manifest may have.
func largest() api.Manifest {
	m := api.Manifest{Frame: api.MaxFrame}
	for i := range api.MaxPartitions {
		one := api.Partition{Name: "p" + strconv.Itoa(i), Period: 240, Duration: 30, Action: 1 + i%3}
		for j := range api.MaxRegions {
			one.Regions = append(one.Regions, api.Region{Page: 62 - 2*j, Pages: 2, Rights: 1 + j%2})
		}
		m.Partitions = append(m.Partitions, one)
		m.Channels = append(m.Channels, api.Channel{Name: one.Name, Source: i, Target: (i + 1) % 8, Kind: 1 + i%2, Size: 32, Depth: 8 + i%2*232})
	}
	return m
}

// bootable are manifests of many kinds.
func bootable(t *testing.T) []api.Manifest {
	all := []api.Manifest{
		parsed(t, example),
		parsed(t, "module 1; partition a { period 1; duration 1; fault restart; }"),
		parsed(t, "module 240; partition a { period 240; duration 1; fault stop; memory 0 64 look; }"),
		parsed(t, "module 240; partition a { period 1; duration 1; fault ignore; memory 63 1 change; }"),
		largest(),
	}
	r := rand.New(rand.NewSource(8))
	for range 200 {
		all = append(all, drawnManifest(r))
	}
	return all
}

func expectNoKernel(t *testing.T, what, image string) {
	t.Helper()
	if k, e := kernel.Boot(image); k != nil || e != api.ErrImage {
		t.Fatalf("Boot of %s = %v, %d, want no kernel, %d", what, k, e, api.ErrImage)
	}
}

// expectNew: the kernel is at tick 0, and nothing was done with it.
func expectNew(t *testing.T, k machine, m api.Manifest) {
	t.Helper()
	plan, _ := build.Plan(m)
	for p := range m.Partitions {
		expectState(t, k, p, api.State{})
	}
	for _, running := range plan {
		expectRuns(t, k, running)
		if running >= 0 {
			expectAllEmpty(t, k, m, running)
		}
		k.Tick()
	}
}

func expectAllEmpty(t *testing.T, k machine, m api.Manifest, p int) {
	t.Helper()
	for _, one := range m.Partitions[p].Regions {
		for address := one.Page * 64; address < (one.Page+one.Pages)*64; address++ {
			expectRead(t, k, p, address, 0, api.OK)
		}
	}
	for place, one := range m.Channels {
		if one.Target == p {
			expectNoMessage(t, k, p, place, api.ErrEmpty)
		}
	}
}

func TestP8KernelsBegin(t *testing.T) {
	for _, m := range bootable(t) {
		expectNew(t, boot(t, m), m)
	}
}

func turned(image string, bits ...int) string {
	bytes := []byte(image)
	for _, bit := range bits {
		bytes[bit/8] ^= 1 << (bit % 8)
	}
	return string(bytes)
}

func TestP8TurnedBits(t *testing.T) {
	image := imageOf(t, parsed(t, example))
	for first := range 8 * len(image) {
		expectNoKernel(t, "a turned bit", turned(image, first))
		for second := range first {
			expectNoKernel(t, "two turned bits", turned(image, first, second))
		}
	}
}

func TestP8TurnedBitsOfManyImages(t *testing.T) {
	r := rand.New(rand.NewSource(8))
	for _, m := range bootable(t) {
		image := imageOf(t, m)
		for first := range 8 * len(image) {
			expectNoKernel(t, "a turned bit", turned(image, first))
			second := r.Intn(8 * len(image))
			if second != first {
				expectNoKernel(t, "two turned bits", turned(image, first, second))
			}
		}
	}
}

// An image may be cut ahead, behind, or both.
func TestP8Cuts(t *testing.T) {
	for _, m := range bootable(t) {
		image := imageOf(t, m)
		for end := range len(image) {
			expectNoKernel(t, "a cut image", image[:end])
			expectNoKernel(t, "a cut image", image[end+1:])
		}
	}
	for _, m := range []api.Manifest{parsed(t, example), largest()} {
		image := imageOf(t, m)
		for from := range image {
			for end := from; end < len(image); end++ {
				expectNoKernel(t, "a piece of an image", image[from:end])
			}
		}
	}
}

func TestP8OtherBytes(t *testing.T) {
	image := imageOf(t, parsed(t, example))
	for _, bytes := range []string{"", "x", example, "\xff", image + "\x00", image + image, "\x00" + image, strings.Repeat("\x00", 100), strings.Repeat("\xff", 1<<20)} {
		expectNoKernel(t, "other bytes", bytes)
	}
}

// sealed has the checksum of an image behind the body, so that Boot has to look at the numbers.
func sealed(body string) string {
	sum := crc32.ChecksumIEEE([]byte(body))
	return body + string([]byte{byte(sum >> 24), byte(sum >> 16), byte(sum >> 8), byte(sum)})
}

// useAll calls everything with everything, in two orders.
func useAll(k machine) {
	numbers := slices.Concat(oddNumbers, []int{0, 1, 2, 63, 64, 127, 128, 4095})
	for range 2 {
		for _, p := range []int{-1, 0, 1, 2, 8} {
			for _, n := range numbers {
				k.Read(p, n)
				k.Write(p, n, n)
				k.Send(p, n, "four")
				k.Receive(p, n)
			}
			k.State(p)
			k.Running()
		}
		k.Raise(k.Running())
		k.Tick()
	}
}

// Whatever the numbers are, if a kernel boots it must not panic.
func TestP8SealedBytes(t *testing.T) {
	image := imageOf(t, parsed(t, example))
	body := image[:len(image)-4]
	if sealed(body) != image {
		t.Fatalf("the image is %q, sealed as %q", image, sealed(body))
	}
	booted := 0
	for i := range body {
		for b := range 256 {
			k, e := kernel.Boot(sealed(body[:i] + string([]byte{byte(b)}) + body[i+1:]))
			if (k == nil) != (e == api.ErrImage) || k != nil && e != api.OK {
				t.Fatalf("Boot with the byte %d at %d = %v, %d", b, i, k, e)
			}
			if k != nil {
				booted++
				useAll(k)
				ticks(k, 300)
				useAll(k)
			}
		}
	}
	if booted < 100 {
		t.Errorf("%d kernels booted", booted)
	}
}

func TestP8SealedNonsense(t *testing.T) {
	r := rand.New(rand.NewSource(88))
	for range 20000 {
		body := []byte{255}
		for range r.Intn(60) {
			body = append(body, byte(r.Intn(4)))
		}
		if k, _ := kernel.Boot(sealed(string(body))); k != nil {
			useAll(k)
		}
	}
	for _, b := range []byte{0, 1, 2, 254, 255} {
		for length := range 2000 {
			if k, _ := kernel.Boot(sealed("\xff" + strings.Repeat(string([]byte{b}), length))); k != nil {
				useAll(k)
			}
		}
	}
}
