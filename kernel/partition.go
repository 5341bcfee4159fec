package kernel

import "bulkhead/api"

// partition has memory of its own: that another one speaks of the same pages says nothing.
type partition struct {
	api.State
	regions []*region
	react   func() // does what its action asks for when it fails
}

func newPartition(from api.Partition, inbound []*channel) *partition {
	one := &partition{}
	for _, r := range from.Regions {
		one.regions = append(one.regions, newRegion(r))
	}
	one.react = reactionOf(one, from.Action, inbound)
	return one
}

// reactionOf answers what is done when the partition fails, to which those channels lead.
func reactionOf(one *partition, action int, inbound []*channel) func() {
	switch action {
	case api.Stop:
		return func() { one.Stopped = true }
	case api.Restart:
		return func() {
			one.clearMemory()
			for _, c := range inbound {
				c.empty()
			}
			one.Restarts++
		}
	}
	return func() {}
}

func (one *partition) fail() {
	one.Faults++
	one.react()
}

func (one *partition) clearMemory() {
	for _, r := range one.regions {
		clear(r.bytes)
	}
}

// regionOf answers nil, if the address is in no region.
func (one *partition) regionOf(address int) *region {
	for _, r := range one.regions {
		if r.has(address) {
			return r
		}
	}
	return nil
}

type region struct {
	first     int // address
	bytes     []byte
	mayChange bool
}

func newRegion(from api.Region) *region {
	return &region{
		first:     from.Page * api.PageSize,
		bytes:     make([]byte, from.Pages*api.PageSize),
		mayChange: from.Rights == api.Change,
	}
}

func (r *region) has(address int) bool {
	return r.first <= address && address < r.first+len(r.bytes)
}

func (r *region) get(address int) int { return int(r.bytes[address-r.first]) }

func (r *region) set(address int, b int) { r.bytes[address-r.first] = byte(b) }
