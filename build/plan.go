package build

import (
	"container/heap"

	"bulkhead/api"
)

// nobody stands in a plan where no partition runs.
const nobody = -1

// plan is for a manifest that is right: since the load fits into the frame, whoever must be
// done earliest going first leaves nobody with ticks to run when its period ends.
func plan(m api.Manifest) []int {
	ticks := make([]int, m.Frame)
	var toRun turns
	for tick := range ticks {
		toRun.begin(m.Partitions, tick)
		ticks[tick] = toRun.runOne()
	}
	return ticks
}

// turn is what a partition still has to run in one of its periods.
type turn struct {
	place int
	end   int // the tick ahead of which it must be done
	left  int // ticks
}

// turns is a heap (container/heap) of those that still have to run.
type turns []turn

// begin adds the partitions of which a period begins at the tick.
func (t *turns) begin(partitions []api.Partition, tick int) {
	for place, one := range partitions {
		if tick%one.Period == 0 {
			heap.Push(t, turn{place: place, end: tick + one.Period, left: one.Duration})
		}
	}
}

// runOne lets the next partition run for a tick, and tells its place.
func (t *turns) runOne() int {
	if t.Len() == 0 {
		return nobody
	}
	next := heap.Pop(t).(turn)
	next.left--
	if next.left > 0 {
		heap.Push(t, next)
	}
	return next.place
}

func (t turns) Len() int { return len(t) }

func (t turns) Less(i, j int) bool {
	if t[i].end != t[j].end {
		return t[i].end < t[j].end
	}
	return t[i].place < t[j].place
}

func (t turns) Swap(i, j int) { t[i], t[j] = t[j], t[i] }

func (t *turns) Push(one any) { *t = append(*t, one.(turn)) }

func (t *turns) Pop() any {
	last := len(*t) - 1
	one := (*t)[last]
	*t = (*t)[:last]
	return one
}
