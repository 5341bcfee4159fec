// Package image: the bytes that build makes of a manifest, and from which a kernel boots.
//
// One byte each, in this order:
//   - a mark
//   - the frame; for each tick 1 and the place of the partition that runs, or 0 for nobody
//   - how many partitions; for each its action and how many regions; for each region Page, Pages and Rights
//   - how many channels; for each Source, Target, Kind, Size and Depth
//
// and the checksum of all that, 4 bytes. Names, periods and durations are left out: with the
// plan at hand, a kernel does not ask for them.
//
// A piece of an image is no image: the counts say how long one is, so none begins another; and
// none stands further back in another, where the mark is at most in the checksum, which is too
// short for one.
package image

import "bulkhead/api"

// mark is above every number of a manifest that is right.
const mark = 255

// Write makes the image of a manifest that is right, with its plan.
func Write(m api.Manifest, plan []int) string {
	body := []byte{mark}
	body = appendPlan(body, plan)
	body = appendPartitions(body, m.Partitions)
	body = appendChannels(body, m.Channels)
	return string(appendChecksum(body))
}

func appendPlan(body []byte, plan []int) []byte {
	body = appendNumbers(body, len(plan))
	for _, place := range plan {
		body = appendNumbers(body, 1+place)
	}
	return body
}

func appendPartitions(body []byte, partitions []api.Partition) []byte {
	body = appendNumbers(body, len(partitions))
	for _, one := range partitions {
		body = appendNumbers(body, one.Action, len(one.Regions))
		for _, region := range one.Regions {
			body = appendNumbers(body, region.Page, region.Pages, region.Rights)
		}
	}
	return body
}

func appendChannels(body []byte, channels []api.Channel) []byte {
	body = appendNumbers(body, len(channels))
	for _, one := range channels {
		body = appendNumbers(body, one.Source, one.Target, one.Kind, one.Size, one.Depth)
	}
	return body
}

func appendNumbers(body []byte, numbers ...int) []byte {
	for _, n := range numbers {
		body = append(body, byte(n))
	}
	return body
}
