package image

import (
	"slices"
	"strconv"

	"bulkhead/api"
	"bulkhead/manifest"
)

// Read answers of what an image was written: the manifest, without what an image leaves out, and
// the plan. It answers false of other bytes, also if their checksum is right and their numbers
// are none that a manifest may have.
func Read(image string) (api.Manifest, []int, bool) {
	r := reader{image: image}
	if r.number() != mark {
		return api.Manifest{}, nil, false
	}
	plan := r.plan()
	m := api.Manifest{Frame: len(plan)}
	m.Partitions = r.partitions()
	m.Channels = r.channels()
	if !r.isAtChecksum() || !isRight(m, plan) {
		return api.Manifest{}, nil, false
	}
	return m, plan, true
}

// reader answers one number of an image after the other.
type reader struct {
	image string
	next  int
}

// number is 0 behind the end, where each list is empty: so a cut image is read to an end, and
// then refused by isAtChecksum.
func (r *reader) number() int {
	if r.next == len(r.image) {
		return 0
	}
	n := int(r.image[r.next])
	r.next++
	return n
}

func (r *reader) plan() []int {
	var plan []int
	for range r.number() {
		plan = append(plan, r.number()-1)
	}
	return plan
}

func (r *reader) partitions() []api.Partition {
	var partitions []api.Partition
	for range r.number() {
		one := api.Partition{Action: r.number()}
		one.Regions = r.regions()
		partitions = append(partitions, one)
	}
	return partitions
}

func (r *reader) regions() []api.Region {
	var regions []api.Region
	for range r.number() {
		var one api.Region
		one.Page = r.number()
		one.Pages = r.number()
		one.Rights = r.number()
		regions = append(regions, one)
	}
	return regions
}

func (r *reader) channels() []api.Channel {
	var channels []api.Channel
	for range r.number() {
		var one api.Channel
		one.Source = r.number()
		one.Target = r.number()
		one.Kind = r.number()
		one.Size = r.number()
		one.Depth = r.number()
		channels = append(channels, one)
	}
	return channels
}

// isAtChecksum tells whether just the checksum of what was read is left.
func (r *reader) isAtChecksum() bool {
	return r.image == string(appendChecksum([]byte(r.image[:r.next])))
}

// isRight asks Check, with something in the place of what an image leaves out. No manifest that
// is right turns wrong by that: each of its partitions is in the plan, which is as long as the
// frame.
func isRight(m api.Manifest, plan []int) bool {
	isStrange := func(place int) bool { return place >= len(m.Partitions) }
	if slices.ContainsFunc(plan, isStrange) {
		return false
	}
	whole := api.Manifest{Frame: m.Frame}
	for place, one := range m.Partitions {
		one.Name = someName(place)
		one.Period = m.Frame
		one.Duration = ticksOf(plan, place)
		whole.Partitions = append(whole.Partitions, one)
	}
	for place, one := range m.Channels {
		one.Name = someName(place)
		whole.Channels = append(whole.Channels, one)
	}
	return manifest.Check(whole) == api.OK
}

func someName(place int) string { return "n" + strconv.Itoa(place) }

func ticksOf(plan []int, place int) int {
	count := 0
	for _, running := range plan {
		if running == place {
			count++
		}
	}
	return count
}
