package kernel

import "bulkhead/image"

// nobody stands in a plan where no partition runs.
const nobody = -1

// load answers nil, if the bytes are no image.
func load(bytes string) *Kernel {
	m, plan, ok := image.Read(bytes)
	if !ok {
		return nil
	}
	k := &Kernel{plan: plan}
	for _, one := range m.Channels {
		k.channels = append(k.channels, newChannel(one))
	}
	for place, one := range m.Partitions {
		k.partitions = append(k.partitions, newPartition(one, k.channelsTo(place)))
	}
	return k
}

func (k *Kernel) channelsTo(place int) []*channel {
	var found []*channel
	for _, one := range k.channels {
		if one.target == place {
			found = append(found, one)
		}
	}
	return found
}
