package manifest

import (
	"slices"

	"bulkhead/api"
)

func hasTooMany(m api.Manifest) bool {
	return !isWithin(len(m.Partitions), 1, api.MaxPartitions) ||
		len(m.Channels) > api.MaxChannels ||
		slices.ContainsFunc(m.Partitions, func(one api.Partition) bool { return len(one.Regions) > api.MaxRegions })
}

func checkPartitions(m api.Manifest) api.Errno {
	for i, one := range m.Partitions {
		hasItsName := func(other api.Partition) bool { return other.Name == one.Name }
		if !isName(one.Name) || slices.ContainsFunc(m.Partitions[:i], hasItsName) {
			return api.ErrName
		}
		if e := checkPartition(one, m.Frame); e != api.OK {
			return e
		}
	}
	return api.OK
}

// checkPartition leaves out the name, which hangs on the other partitions.
func checkPartition(one api.Partition, frame int) api.Errno {
	switch {
	case !isWithin(one.Period, 1, frame) || frame%one.Period != 0:
		return api.ErrPeriod
	case !isWithin(one.Duration, 1, one.Period):
		return api.ErrDuration
	case !isOption(actions(), one.Action):
		return api.ErrAction
	case !areRegions(one.Regions):
		return api.ErrRegion
	}
	return api.OK
}

func areRegions(regions []api.Region) bool {
	for i, one := range regions {
		meets := func(other api.Region) bool { return haveCommonPage(one, other) }
		if !isRegion(one) || slices.ContainsFunc(regions[:i], meets) {
			return false
		}
	}
	return true
}

func isRegion(one api.Region) bool {
	// Page and Pages are not added up ahead of their bounds: the sum could wrap round.
	return isWithin(one.Pages, 1, api.MaxPage) &&
		isWithin(one.Page, 0, api.MaxPage-one.Pages) &&
		isOption(rights(), one.Rights)
}

func haveCommonPage(a, b api.Region) bool {
	return a.Page < b.Page+b.Pages && b.Page < a.Page+a.Pages
}

func checkChannels(m api.Manifest) api.Errno {
	for i, one := range m.Channels {
		hasItsName := func(other api.Channel) bool { return other.Name == one.Name }
		if !isName(one.Name) || slices.ContainsFunc(m.Channels[:i], hasItsName) {
			return api.ErrName
		}
		if e := checkChannel(one, m); e != api.OK {
			return e
		}
	}
	return api.OK
}

// checkChannel leaves out the name, which hangs on the other channels.
func checkChannel(one api.Channel, m api.Manifest) api.Errno {
	last := len(m.Partitions) - 1
	switch {
	case !isWithin(one.Source, 0, last) || !isWithin(one.Target, 0, last) || one.Source == one.Target:
		return api.ErrEnd
	case !isOption(channelKinds(), one.Kind):
		return api.ErrKind
	case !isWithin(one.Size, 1, api.MaxSize):
		return api.ErrSize
	case !isWithin(one.Depth, 1, maxDepth(one.Kind, m.Frame)):
		return api.ErrDepth
	}
	return api.OK
}

func maxDepth(kind, frame int) int {
	if kind == api.Sample {
		return frame
	}
	return api.MaxDepth
}

// load is how many ticks of a frame the partitions take, if each of them is right.
func load(m api.Manifest) int {
	ticks := 0
	for _, one := range m.Partitions {
		ticks += m.Frame / one.Period * one.Duration
	}
	return ticks
}

func pages(m api.Manifest) int {
	sum := 0
	for _, partition := range m.Partitions {
		for _, region := range partition.Regions {
			sum += region.Pages
		}
	}
	return sum
}

func isName(text string) bool {
	return isWithin(len(text), 1, api.MaxName) && isLetter(text[0]) && runLength(text) == len(text)
}

func isWithin(n, least, most int) bool { return least <= n && n <= most }
