package image

import (
	"hash/crc32"
	"strings"
	"testing"

	"bulkhead/api"
)

// longest has as much of everything as a manifest may have.
func longest() string {
	m := api.Manifest{Partitions: make([]api.Partition, api.MaxPartitions), Channels: make([]api.Channel, api.MaxChannels)}
	for i := range m.Partitions {
		m.Partitions[i] = api.Partition{Action: api.Restart, Regions: make([]api.Region, api.MaxRegions)}
	}
	return Write(m, make([]int, api.MaxFrame))
}

func TestLayout(t *testing.T) {
	m := api.Manifest{
		Frame: 3,
		Partitions: []api.Partition{
			{Name: "a", Period: 3, Duration: 1, Action: api.Stop, Regions: []api.Region{{Page: 5, Pages: 2, Rights: api.Change}, {Page: 0, Pages: 1, Rights: api.Look}}},
			{Name: "b", Period: 3, Duration: 1, Action: api.Restart},
		},
		Channels: []api.Channel{{Name: "c", Source: 1, Target: 0, Kind: api.Sample, Size: 32, Depth: 3}},
	}
	body := string([]byte{255, 3, 1, 2, 0, 2, 2, 2, 5, 2, 2, 0, 1, 1, 3, 0, 1, 1, 0, 2, 32, 3})
	sum := crc32.ChecksumIEEE([]byte(body))
	want := body + string([]byte{byte(sum >> 24), byte(sum >> 16), byte(sum >> 8), byte(sum)})
	if got := Write(m, []int{0, 1, -1}); got != want {
		t.Errorf("Write = %v, want %v", []byte(got), []byte(want))
	}
}

func TestChecksum(t *testing.T) {
	for _, body := range []string{"", "\x00", "a", "123456789", strings.Repeat("\xff\x00", 700), longest()} {
		if got, want := checksum([]byte(body)), crc32.ChecksumIEEE([]byte(body)); got != want {
			t.Errorf("checksum(%.20q) = %x, want %x", body, got, want)
		}
	}
}

// stepOf is 0, if the body and the checksum behind it are in step, and tells else by which bits they are not.
func stepOf(image []byte) uint32 {
	body, tail := image[:len(image)-4], image[len(image)-4:]
	return checksum(body) ^ (uint32(tail[0])<<24 | uint32(tail[1])<<16 | uint32(tail[2])<<8 | uint32(tail[3]))
}

// A turned bit always turns the same bits of the step, so two of them cannot make up for each
// other if no two turn the same ones.
func TestTurnedBitsAreTold(t *testing.T) {
	image := []byte(longest())
	if step := stepOf(image); step != 0 {
		t.Fatalf("the step of an image is %x", step)
	}
	turned := map[uint32]int{0: -1}
	for i := range 8 * len(image) {
		image[i/8] ^= 1 << (i % 8)
		step := stepOf(image)
		image[i/8] ^= 1 << (i % 8)
		if other, has := turned[step]; has {
			t.Fatalf("the bits %d and %d are told as the same", other, i)
		}
		turned[step] = i
	}
}
