package kernel

import (
	"slices"

	"bulkhead/api"
)

type channel struct {
	source, target int
	isQueue        bool
	size, depth    int
	messages       [][]byte // of a sample the last one alone
	age            int      // of a sample's message, in ticks: if it is above the depth, how much does not matter
}

func newChannel(from api.Channel) *channel {
	return &channel{
		source:  from.Source,
		target:  from.Target,
		isQueue: from.Kind == api.Queue,
		size:    from.Size,
		depth:   from.Depth,
	}
}

func (c *channel) isEmpty() bool { return len(c.messages) == 0 }

// isFull is never so of a sample, which takes a new message in the place of the last one.
func (c *channel) isFull() bool { return c.isQueue && len(c.messages) == c.depth }

func (c *channel) empty() { c.messages = nil }

// put copies the message: what was handed in is not kept.
func (c *channel) put(message string) {
	if !c.isQueue {
		c.empty()
		c.age = 0
	}
	c.messages = append(c.messages, []byte(message))
}

// take is for a channel that is not empty.
func (c *channel) take() (string, bool) {
	message := string(c.messages[0])
	if !c.isQueue {
		return message, c.age <= c.depth
	}
	c.messages = slices.Delete(c.messages, 0, 1)
	return message, true
}

// growOlder stops above the depth, so that a message that was sent long ago never seems new.
func (c *channel) growOlder() {
	if c.age <= c.depth {
		c.age++
	}
}
