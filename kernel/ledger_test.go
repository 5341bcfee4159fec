package kernel_test

import (
	"math/rand"
	"testing"

	"bulkhead/api"
	"bulkhead/build"
)

// ledger is P9 to P12 in another way: it keeps no memory, no queues and no counts, but all that
// was done, and looks up there what that comes to.
type ledger struct {
	m    api.Manifest
	plan []int
	time int
	done []deed
}

// deed is something that was done and not refused; or "Fault", by whatever call.
type deed struct {
	call
	time int
}

func newLedger(m api.Manifest) *ledger {
	plan, _ := build.Plan(m)
	return &ledger{m: m, plan: plan}
}

func (l *ledger) note(c call) { l.done = append(l.done, deed{c, l.time}) }

func (l *ledger) faults(p int) int {
	count := 0
	for _, one := range l.done {
		if one.method == "Fault" && one.p == p {
			count++
		}
	}
	return count
}

func (l *ledger) isStopped(p int) bool {
	return l.m.Partitions[p].Action == api.Stop && l.faults(p) > 0
}

// sinceRestart is what was done behind the last restart of p.
func (l *ledger) sinceRestart(p int) []deed {
	for i := len(l.done) - 1; i >= 0 && l.m.Partitions[p].Action == api.Restart; i-- {
		if l.done[i].method == "Fault" && l.done[i].p == p {
			return l.done[i+1:]
		}
	}
	return l.done
}

// sentTo is what lies in a channel, or of a sample all that ever lay there.
func (l *ledger) sentTo(channel int) []deed {
	var sent []deed
	for _, one := range l.sinceRestart(l.m.Channels[channel].Target) {
		switch {
		case one.method == "Send" && one.n == channel:
			sent = append(sent, one)
		case one.method == "Receive" && one.n == channel && l.m.Channels[channel].Kind == api.Queue:
			sent = sent[1:]
		}
	}
	return sent
}

func (l *ledger) refusal(p int) api.Errno {
	if p < 0 || p > len(l.m.Partitions)-1 {
		return api.ErrPartition
	}
	if l.isStopped(p) {
		return api.ErrStopped
	}
	if l.plan[l.time%l.m.Frame] != p {
		return api.ErrWindow
	}
	return api.OK
}

func (l *ledger) rights(p, address int) int {
	for _, one := range l.m.Partitions[p].Regions {
		for page := one.Page; page < one.Page+one.Pages; page++ {
			for offset := range 64 {
				if 64*page+offset == address {
					return one.Rights
				}
			}
		}
	}
	return 0
}

func (l *ledger) Tick() { l.time++ }

func (l *ledger) Running() int {
	if p := l.plan[l.time%l.m.Frame]; l.refusal(p) == api.OK {
		return p
	}
	return -1
}

func (l *ledger) Read(p int, address int) (int, api.Errno) {
	if e := l.refusal(p); e != api.OK {
		return 0, e
	}
	if l.rights(p, address) == 0 {
		l.note(call{method: "Fault", p: p})
		return 0, api.ErrFault
	}
	b := 0
	for _, one := range l.sinceRestart(p) {
		if one.method == "Write" && one.p == p && one.n == address {
			b = one.b
		}
	}
	return (b%256 + 256) % 256, api.OK
}

func (l *ledger) Write(p int, address int, b int) api.Errno {
	if e := l.refusal(p); e != api.OK {
		return e
	}
	if l.rights(p, address) != api.Change {
		l.note(call{method: "Fault", p: p})
		return api.ErrFault
	}
	l.note(call{method: "Write", p: p, n: address, b: b})
	return api.OK
}

func (l *ledger) Send(p int, channel int, message string) api.Errno {
	if e := l.refusal(p); e != api.OK {
		return e
	}
	if channel < 0 || channel > len(l.m.Channels)-1 || l.m.Channels[channel].Source != p {
		return api.ErrPort
	}
	one := l.m.Channels[channel]
	if len(message) > one.Size {
		return api.ErrLong
	}
	if one.Kind == api.Queue && len(l.sentTo(channel)) == one.Depth {
		return api.ErrFull
	}
	l.note(call{method: "Send", p: p, n: channel, message: message})
	return api.OK
}

func (l *ledger) Receive(p int, channel int) (string, bool, api.Errno) {
	if e := l.refusal(p); e != api.OK {
		return "", false, e
	}
	if channel < 0 || channel > len(l.m.Channels)-1 || l.m.Channels[channel].Target != p {
		return "", false, api.ErrPort
	}
	sent := l.sentTo(channel)
	if len(sent) == 0 {
		return "", false, api.ErrEmpty
	}
	l.note(call{method: "Receive", p: p, n: channel})
	if l.m.Channels[channel].Kind == api.Queue {
		return sent[0].message, true, api.OK
	}
	last := sent[len(sent)-1]
	return last.message, l.time-last.time <= l.m.Channels[channel].Depth, api.OK
}

func (l *ledger) Raise(p int) api.Errno {
	e := l.refusal(p)
	if e == api.OK {
		l.note(call{method: "Fault", p: p})
	}
	return e
}

func (l *ledger) State(p int) (api.State, api.Errno) {
	if e := l.refusal(p); e == api.ErrPartition {
		return api.State{}, e
	}
	state := api.State{Stopped: l.isStopped(p), Faults: l.faults(p)}
	if l.m.Partitions[p].Action == api.Restart {
		state.Restarts = state.Faults
	}
	return state, api.OK
}

// drawnCaller is mostly the one who runs.
func drawnCaller(r *rand.Rand, m api.Manifest, running int) int {
	if running < 0 || r.Intn(10) == 0 {
		return r.Intn(len(m.Partitions)+2) - 1
	}
	return running
}

// seen counts how often each method was answered with each error.
type seen map[string]map[api.Errno]int

func (s seen) add(c call, a answer) {
	if s[c.method] == nil {
		s[c.method] = map[api.Errno]int{}
	}
	s[c.method][a.e]++
}

// expect fails if something was met so seldom that the draws say little of it.
func (s seen) expect(t *testing.T) {
	t.Helper()
	common := []api.Errno{api.OK, api.ErrPartition, api.ErrStopped, api.ErrWindow}
	more := map[string][]api.Errno{"Raise": {}, "Read": {api.ErrFault}, "Write": {api.ErrFault}, "Send": {api.ErrPort, api.ErrLong, api.ErrFull}, "Receive": {api.ErrPort, api.ErrEmpty}}
	for method, errnos := range more {
		for _, e := range append(errnos, common...) {
			if s[method][e] < 20 {
				t.Errorf("%s answered %d only %d times", method, e, s[method][e])
			}
		}
	}
}

func TestP8ToP12AgainstALedger(t *testing.T) {
	r := rand.New(rand.NewSource(12))
	met := seen{}
	for range 600 {
		m := drawnManifest(r)
		k, l := boot(t, m), newLedger(m)
		var script []call
		for range 200 {
			c := drawnCall(r, m, drawnCaller(r, m, l.plan[l.time%m.Frame]))
			if r.Intn(5) == 0 {
				c = call{method: "Tick"}
			}
			script = append(script, c)
			got, want := c.on(k), c.on(l)
			met.add(c, got)
			if got != want {
				t.Fatalf("%+v: %+v = %+v, want %+v", m, script, got, want)
			}
			expectRuns(t, k, l.Running())
			for p := range m.Partitions {
				state, _ := l.State(p)
				expectState(t, k, p, state)
			}
		}
	}
	met.expect(t)
}
