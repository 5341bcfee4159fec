package manifest_test

import (
	"math"
	"math/big"
	"regexp"
	"testing"

	"bulkhead/api"
	"bulkhead/manifest"
)

var nameForm = regexp.MustCompile(`\A[a-z][a-z0-9_]{0,15}\z`)

// checkAgain is P4 in another way: it counts out what Check reckons.
func checkAgain(m api.Manifest) api.Errno {
	if m.Frame < 1 || m.Frame > 240 {
		return api.ErrFrame
	}
	most := 0
	for _, one := range m.Partitions {
		most = max(most, len(one.Regions))
	}
	if len(m.Partitions) == 0 || len(m.Partitions) > 8 || len(m.Channels) > 8 || most > 4 {
		return api.ErrMany
	}
	seen := map[string]int{}
	ticks, pages := 0, 0
	for _, one := range m.Partitions {
		if seen[one.Name]++; seen[one.Name] > 1 || !nameForm.MatchString(one.Name) {
			return api.ErrName
		}
		e, itsPages := checkPartitionAgain(one, m.Frame)
		if e != api.OK {
			return e
		}
		for tick := 0; tick < m.Frame; tick += one.Period {
			ticks += one.Duration
		}
		pages += itsPages
	}
	clear(seen)
	for _, one := range m.Channels {
		if seen[one.Name]++; seen[one.Name] > 1 || !nameForm.MatchString(one.Name) {
			return api.ErrName
		}
		if e := checkChannelAgain(one, m); e != api.OK {
			return e
		}
	}
	if ticks > m.Frame {
		return api.ErrLoad
	}
	if pages > 64 {
		return api.ErrMemory
	}
	return api.OK
}

func checkPartitionAgain(one api.Partition, frame int) (api.Errno, int) {
	divides := false
	for times := 1; times <= frame; times++ {
		divides = divides || big.NewInt(0).Mul(big.NewInt(int64(times)), big.NewInt(int64(one.Period))).Cmp(big.NewInt(int64(frame))) == 0
	}
	if !divides {
		return api.ErrPeriod, 0
	}
	if one.Duration <= 0 || one.Duration > one.Period {
		return api.ErrDuration, 0
	}
	if one.Action != api.Ignore && one.Action != api.Stop && one.Action != api.Restart {
		return api.ErrAction, 0
	}
	taken := map[int]bool{}
	for _, region := range one.Regions {
		end := big.NewInt(0).Add(big.NewInt(int64(region.Page)), big.NewInt(int64(region.Pages)))
		if region.Page < 0 || region.Pages < 1 || end.Cmp(big.NewInt(64)) > 0 || region.Rights != api.Look && region.Rights != api.Change {
			return api.ErrRegion, 0
		}
		for page := region.Page; page < region.Page+region.Pages; page++ {
			if taken[page] {
				return api.ErrRegion, 0
			}
			taken[page] = true
		}
	}
	return api.OK, len(taken)
}

func checkChannelAgain(one api.Channel, m api.Manifest) api.Errno {
	ends := 0
	for place := range m.Partitions {
		if place == one.Source {
			ends++
		}
		if place == one.Target {
			ends++
		}
	}
	if ends != 2 || one.Source == one.Target {
		return api.ErrEnd
	}
	most := map[int]int{api.Queue: 8, api.Sample: m.Frame}[one.Kind]
	if most == 0 {
		return api.ErrKind
	}
	if one.Size <= 0 || one.Size > 32 {
		return api.ErrSize
	}
	if one.Depth <= 0 || one.Depth > most {
		return api.ErrDepth
	}
	return api.OK
}

// fields are all numbers of a manifest.
func fields(m *api.Manifest) []*int {
	all := []*int{&m.Frame}
	for i := range m.Partitions {
		one := &m.Partitions[i]
		all = append(all, &one.Period, &one.Duration, &one.Action)
		for j := range one.Regions {
			all = append(all, &one.Regions[j].Page, &one.Regions[j].Pages, &one.Regions[j].Rights)
		}
	}
	for i := range m.Channels {
		one := &m.Channels[i]
		all = append(all, &one.Source, &one.Target, &one.Kind, &one.Size, &one.Depth)
	}
	return all
}

func TestP4AgainstAnotherReading(t *testing.T) {
	values := []int{math.MinInt, -1, 0, 1, 2, 3, 4, 6, 8, 9, 12, 13, 32, 33, 44, 62, 65, 240, 241, math.MaxInt}
	base := sound()
	count := len(fields(&base))
	for first := range count {
		for second := range first + 1 {
			for _, a := range values {
				for _, b := range values {
					m := sound()
					*fields(&m)[first] = a
					*fields(&m)[second] = b
					if got, want := manifest.Check(m), checkAgain(m); got != want {
						t.Fatalf("Check(%+v) = %d, want %d", m, got, want)
					}
				}
			}
		}
	}
}

func TestP4AllRegionPairs(t *testing.T) {
	m := api.Manifest{Frame: 1, Partitions: []api.Partition{{Name: "a", Period: 1, Duration: 1, Action: api.Ignore, Regions: make([]api.Region, 2)}}}
	regions := m.Partitions[0].Regions
	for _, pages := range [][2]int{{1, 1}, {1, 3}, {3, 1}, {4, 4}, {31, 33}, {32, 33}, {64, 1}} {
		for first := -1; first <= 65; first++ {
			for second := -1; second <= 65; second++ {
				regions[0] = api.Region{Page: first, Pages: pages[0], Rights: api.Look}
				regions[1] = api.Region{Page: second, Pages: pages[1], Rights: api.Change}
				if got, want := manifest.Check(m), checkAgain(m); got != want {
					t.Fatalf("Check(%+v) = %d, want %d", m, got, want)
				}
			}
		}
	}
}
