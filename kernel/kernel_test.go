package kernel_test

import (
	"math"
	"strconv"
	"strings"
	"testing"

	"bulkhead/api"
	"bulkhead/build"
)

// pair: two partitions that run by turns, one tick each; actionIn fills in a's action.
const pair = `module 2;
partition a { period 2; duration 1; fault ACTION; memory 2 2 change; memory 63 1 look; memory 1 1 change; }
partition b { period 2; duration 1; fault ignore; memory 2 1 change; }
channel q b -> a queue 3 2;
channel s b -> a sample 3 2;
channel back a -> b queue 3 2;
channel still a -> b sample 3 1;`

func pairOf(t *testing.T, action string) machine {
	t.Helper()
	return bootText(t, actionIn(pair, action))
}

func actionIn(text, action string) string { return strings.Replace(text, "ACTION", action, 1) }

func TestP8ToP12Example(t *testing.T) {
	k := bootText(t, example)
	expectWrite(t, k, 0, 127, 300, api.OK)
	expectRead(t, k, 0, 127, 44, api.OK)
	expectRead(t, k, 1, 0, 0, api.ErrWindow)
	expectSend(t, k, 0, 0, "abcd", api.OK)
	expectSend(t, k, 0, 0, "abcde", api.ErrLong)
	k.Tick()
	expectMessage(t, k, 1, 0, "abcd", true)
	expectNoMessage(t, k, 1, 0, api.ErrEmpty)
	expectRead(t, k, 1, 0, 0, api.ErrFault)
	expectState(t, k, 1, api.State{Faults: 1})
	k.Tick()
	expectRead(t, k, 0, 128, 0, api.ErrFault)
	expectRead(t, k, 0, 0, 0, api.ErrStopped)
	expectRuns(t, k, -1)
}

func TestP9RunningGoesByThePlan(t *testing.T) {
	for _, m := range bootable(t) {
		k := boot(t, m)
		plan, _ := build.Plan(m)
		for time := range 3*m.Frame + 2 {
			expectRuns(t, k, plan[time%m.Frame])
			expectRuns(t, k, plan[time%m.Frame])
			k.Tick()
		}
	}
}

func TestP9ManyFrames(t *testing.T) {
	m := parsed(t, "module 7; partition a { period 7; duration 3; fault stop; } partition b { period 7; duration 2; fault stop; }")
	k := boot(t, m)
	for time := range 1 << 18 {
		expectRuns(t, k, []int{0, 0, 0, 1, 1, -1, -1}[time%7])
		k.Tick()
	}
}

func TestP9WhoIsStoppedDoesNotRun(t *testing.T) {
	k := pairOf(t, "stop")
	expectErrno(t, "Raise(0)", k.Raise(0), api.OK)
	for range 100 {
		expectRuns(t, k, -1)
		k.Tick()
		expectRuns(t, k, 1)
		k.Tick()
	}
}

func TestP10NoSuchPartition(t *testing.T) {
	k := pairOf(t, "stop")
	for _, p := range append(oddNumbers, 2, 3, 7) {
		for range 3 {
			if state, e := k.State(p); state != (api.State{}) || e != api.ErrPartition {
				t.Errorf("State(%d) = %+v, %d", p, state, e)
			}
			expectErrno(t, "Raise", k.Raise(p), api.ErrPartition)
			expectRead(t, k, p, 128, 0, api.ErrPartition)
			expectWrite(t, k, p, 128, 1, api.ErrPartition)
			expectSend(t, k, p, 2, "", api.ErrPartition)
			expectNoMessage(t, k, p, 0, api.ErrPartition)
			k.Tick()
		}
	}
	expectState(t, k, 0, api.State{})
	expectState(t, k, 1, api.State{})
}

// With nobody's tick, -1 is no partition that runs.
func TestP10NobodysTick(t *testing.T) {
	k := bootText(t, "module 2; partition a { period 2; duration 1; fault stop; memory 0 1 change; }")
	k.Tick()
	expectRuns(t, k, -1)
	expectErrno(t, "Raise(-1)", k.Raise(-1), api.ErrPartition)
	expectErrno(t, "Raise(0)", k.Raise(0), api.ErrWindow)
	expectRead(t, k, -1, 0, 0, api.ErrPartition)
	expectRead(t, k, 0, 0, 0, api.ErrWindow)
	expectState(t, k, 0, api.State{})
}

// fill writes into a's memory, fills all channels and leaves the kernel at a's turn.
func fill(t *testing.T, k machine) {
	t.Helper()
	for address := 64; address < 256; address++ {
		expectWrite(t, k, 0, address, address, api.OK)
	}
	expectSend(t, k, 0, 2, "one", api.OK)
	expectSend(t, k, 0, 2, "two", api.OK)
	expectSend(t, k, 0, 3, "its", api.OK)
	k.Tick()
	expectWrite(t, k, 1, 128, 77, api.OK)
	expectSend(t, k, 1, 0, "uno", api.OK)
	expectSend(t, k, 1, 0, "due", api.OK)
	expectSend(t, k, 1, 1, "sua", api.OK)
	k.Tick()
}

// expectOthersUntouched looks at b's memory, and at what a has sent to it.
func expectOthersUntouched(t *testing.T, k machine) {
	t.Helper()
	expectRuns(t, k, 1)
	expectState(t, k, 1, api.State{})
	expectRead(t, k, 1, 128, 77, api.OK)
	expectMessage(t, k, 1, 2, "one", true)
	expectMessage(t, k, 1, 2, "two", true)
	expectNoMessage(t, k, 1, 2, api.ErrEmpty)
	expectMessage(t, k, 1, 3, "its", false)
}

// failings are the ways to fail, and what they answer.
type failing struct {
	name string
	do   func(k machine) api.Errno
	want api.Errno
}

func failings() []failing {
	return []failing{
		{"Raise", func(k machine) api.Errno { return k.Raise(0) }, api.OK},
		{"Read", func(k machine) api.Errno { _, e := k.Read(0, 63); return e }, api.ErrFault},
		{"Write", func(k machine) api.Errno { return k.Write(0, 256, 1) }, api.ErrFault},
		{"Write, where it may look", func(k machine) api.Errno { return k.Write(0, 4095, 1) }, api.ErrFault},
	}
}

func TestP10Ignore(t *testing.T) {
	for _, one := range failings() {
		k := pairOf(t, "ignore")
		fill(t, k)
		for count := range 5 {
			expectErrno(t, one.name, one.do(k), one.want)
			expectState(t, k, 0, api.State{Faults: count + 1})
		}
		expectRuns(t, k, 0)
		for address := 64; address < 256; address++ {
			expectRead(t, k, 0, address, address, api.OK)
		}
		expectMessage(t, k, 0, 0, "uno", true)
		expectMessage(t, k, 0, 0, "due", true)
		expectMessage(t, k, 0, 1, "sua", true)
		k.Tick()
		expectOthersUntouched(t, k)
	}
}

func TestP10Stop(t *testing.T) {
	for _, one := range failings() {
		k := pairOf(t, "stop")
		fill(t, k)
		expectErrno(t, one.name, one.do(k), one.want)
		k.Tick()
		expectOthersUntouched(t, k)
		for time := range 200 {
			expectErrno(t, "Raise", k.Raise(0), api.ErrStopped)
			expectRead(t, k, 0, 128, 0, api.ErrStopped)
			expectRead(t, k, 0, 0, 0, api.ErrStopped)
			expectWrite(t, k, 0, 128, 1, api.ErrStopped)
			expectWrite(t, k, 0, 0, 1, api.ErrStopped)
			expectSend(t, k, 0, 2, "", api.ErrStopped)
			expectSend(t, k, 0, 9, "", api.ErrStopped)
			expectNoMessage(t, k, 0, 0, api.ErrStopped)
			expectNoMessage(t, k, 0, 9, api.ErrStopped)
			expectState(t, k, 0, api.State{Stopped: true, Faults: 1})
			if time%2 == 0 {
				expectSend(t, k, 1, 0, "tre", api.ErrFull)
			}
			k.Tick()
		}
	}
}

func TestP10Restart(t *testing.T) {
	for _, one := range failings() {
		k := pairOf(t, "restart")
		fill(t, k)
		expectErrno(t, one.name, one.do(k), one.want)
		expectState(t, k, 0, api.State{Faults: 1, Restarts: 1})
		expectRuns(t, k, 0)
		for address := 64; address < 256; address++ {
			expectRead(t, k, 0, address, 0, api.OK)
		}
		expectRead(t, k, 0, 4095, 0, api.OK)
		expectNoMessage(t, k, 0, 0, api.ErrEmpty)
		expectNoMessage(t, k, 0, 1, api.ErrEmpty)
		k.Tick()
		expectOthersUntouched(t, k)
		k.Tick()
		expectErrno(t, one.name, one.do(k), one.want)
		expectState(t, k, 0, api.State{Faults: 2, Restarts: 2})
	}
}

// Who was restarted goes on as it began: it may write, and all its channels hold as much as before.
func TestP10RestartedGoesOn(t *testing.T) {
	k := pairOf(t, "restart")
	for range 4 {
		fill(t, k)
		expectRead(t, k, 0, 200, 200, api.OK)
		expectErrno(t, "Raise(0)", k.Raise(0), api.OK)
		k.Tick()
		expectOthersUntouched(t, k)
		k.Tick()
		expectNoMessage(t, k, 0, 0, api.ErrEmpty)
		expectNoMessage(t, k, 0, 1, api.ErrEmpty)
	}
}

func TestP10RefusedCallsDoNotFail(t *testing.T) {
	k := pairOf(t, "stop")
	for range 3 {
		expectErrno(t, "Raise(1)", k.Raise(1), api.ErrWindow)
		expectRead(t, k, 1, 0, 0, api.ErrWindow)
		expectWrite(t, k, 1, 0, 1, api.ErrWindow)
		expectSend(t, k, 0, 0, "toolong", api.ErrPort)
		expectSend(t, k, 0, 2, "toolong", api.ErrLong)
		expectNoMessage(t, k, 0, 2, api.ErrPort)
		expectNoMessage(t, k, 0, 0, api.ErrEmpty)
		k.Tick()
		expectErrno(t, "Raise(0)", k.Raise(0), api.ErrWindow)
		expectRead(t, k, 0, 0, 0, api.ErrWindow)
		expectWrite(t, k, 0, 4095, 1, api.ErrWindow)
		k.Tick()
	}
	expectState(t, k, 0, api.State{})
	expectState(t, k, 1, api.State{})
}

// rightsOf tells what a's regions let it do.
func rightsOf(address int) (bool, bool) {
	mayChange := 64 <= address && address < 256
	return mayChange || 4032 <= address && address < 4096, mayChange
}

func TestP11EveryAddress(t *testing.T) {
	k := pairOf(t, "ignore")
	faults := 0
	look := func(address int) {
		t.Helper()
		mayLook, mayChange := rightsOf(address)
		reading, writing := api.OK, api.OK
		if !mayLook {
			reading = api.ErrFault
			faults++
		}
		if !mayChange {
			writing = api.ErrFault
			faults++
		}
		expectRead(t, k, 0, address, 0, reading)
		expectWrite(t, k, 0, address, 0, writing)
		expectState(t, k, 0, api.State{Faults: faults})
	}
	for address := -300; address < 4400; address++ {
		look(address)
	}
	for _, address := range []int{math.MinInt, math.MinInt + 128, -1 << 32, 1<<32 + 128, math.MaxInt - 64, math.MaxInt} {
		look(address)
	}
}

func TestP11BytesAreApart(t *testing.T) {
	k := pairOf(t, "ignore")
	for address := 64; address < 256; address++ {
		expectWrite(t, k, 0, address, 3*address, api.OK)
	}
	k.Tick()
	for address := 128; address < 192; address++ {
		expectRead(t, k, 1, address, 0, api.OK)
		expectWrite(t, k, 1, address, 7*address, api.OK)
	}
	expectRead(t, k, 1, 192, 0, api.ErrFault)
	k.Tick()
	for address := 64; address < 256; address++ {
		expectRead(t, k, 0, address, 3*address%256, api.OK)
	}
	for address := 4032; address < 4096; address++ {
		expectRead(t, k, 0, address, 0, api.OK)
	}
	k.Tick()
	for address := 128; address < 192; address++ {
		expectRead(t, k, 1, address, 7*address%256, api.OK)
	}
}

func TestP11Modulo(t *testing.T) {
	k := pairOf(t, "ignore")
	for b := -600; b <= 600; b++ {
		expectWrite(t, k, 0, 128, b, api.OK)
		expectRead(t, k, 0, 128, ((b%256)+256)%256, api.OK)
	}
	for b, want := range map[int]int{math.MinInt: 0, math.MinInt + 1: 1, math.MaxInt: 255, math.MaxInt - 255: 0, 1 << 32: 0, -1 << 32: 0, 1<<40 + 300: 44} {
		expectWrite(t, k, 0, 128, b, api.OK)
		expectRead(t, k, 0, 128, want, api.OK)
	}
}

func TestP11AllOfTheMachine(t *testing.T) {
	k := bootText(t, "module 1; partition a { period 1; duration 1; fault stop; memory 0 64 change; }")
	for address := range 4096 {
		expectWrite(t, k, 0, address, address%251, api.OK)
	}
	k.Tick()
	for address := range 4096 {
		expectRead(t, k, 0, address, address%251, api.OK)
	}
	expectRead(t, k, 0, 4096, 0, api.ErrFault)
	expectRead(t, k, 0, 4095, 0, api.ErrStopped)
}

func TestP12Queue(t *testing.T) {
	for depth := 1; depth <= api.MaxDepth; depth++ {
		k := bootText(t, "module 2; partition a { period 2; duration 1; fault stop; } partition b { period 2; duration 1; fault stop; } channel c a -> b queue 2 "+strconv.Itoa(depth)+";")
		sent, taken := 0, 0
		for round := range 40 {
			for sent-taken < depth {
				expectSend(t, k, 0, 0, strconv.Itoa(sent%100), api.OK)
				sent++
			}
			expectSend(t, k, 0, 0, "x", api.ErrFull)
			expectSend(t, k, 0, 0, "xxx", api.ErrLong)
			k.Tick()
			for range 1 + round%depth {
				expectMessage(t, k, 1, 0, strconv.Itoa(taken%100), true)
				taken++
			}
			if round%depth == depth-1 {
				expectNoMessage(t, k, 1, 0, api.ErrEmpty)
			}
			k.Tick()
		}
	}
}

func TestP12QueueDoesNotAge(t *testing.T) {
	k := pairOf(t, "stop")
	expectSend(t, k, 0, 2, "old", api.OK)
	ticks(k, 1001)
	expectMessage(t, k, 1, 2, "old", true)
}

func TestP12Sizes(t *testing.T) {
	for _, kind := range []string{"queue", "sample"} {
		for size := 1; size <= api.MaxSize; size++ {
			k := bootText(t, "module 2; partition a { period 2; duration 1; fault stop; } partition b { period 2; duration 1; fault stop; } channel c a -> b "+kind+" "+strconv.Itoa(size)+" 1;")
			for length := range size + 1 {
				message := strings.Repeat("\x00\xff#", 20)[:length]
				expectSend(t, k, 0, 0, message, api.OK)
				for _, above := range []int{size + 1, size + 256, 1 << 16} {
					expectSend(t, k, 0, 0, strings.Repeat("x", above), api.ErrLong)
				}
				k.Tick()
				expectMessage(t, k, 1, 0, message, true)
				k.Tick()
			}
		}
	}
}

func TestP12Sample(t *testing.T) {
	for _, depth := range []int{1, 2, 3, 5, 239, 240} {
		k := bootText(t, "module 240; partition a { period 2; duration 1; fault stop; } partition b { period 2; duration 1; fault stop; } channel c a -> b sample 3 "+strconv.Itoa(depth)+";")
		for _, message := range []string{"one", "", "two"} {
			expectSend(t, k, 0, 0, "not", api.OK)
			expectSend(t, k, 0, 0, message, api.OK)
			for age := 1; age <= 2000; age++ {
				k.Tick()
				if age%2 == 1 {
					expectMessage(t, k, 1, 0, message, age <= depth)
					expectMessage(t, k, 1, 0, message, age <= depth)
				}
			}
		}
	}
}

// A partition that runs for two ticks, behind one that does, meets ages of 1, 2 and 3.
func TestP12SampleIsSentAnew(t *testing.T) {
	k := bootText(t, "module 4; partition a { period 4; duration 2; fault stop; } partition b { period 4; duration 2; fault stop; } channel c a -> b sample 3 2;")
	expectSend(t, k, 0, 0, "new", api.OK)
	ticks(k, 2)
	expectMessage(t, k, 1, 0, "new", true)
	k.Tick()
	expectMessage(t, k, 1, 0, "new", false)
	k.Tick()
	expectSend(t, k, 0, 0, "new", api.OK)
	k.Tick()
	expectSend(t, k, 0, 0, "toolong", api.ErrLong)
	k.Tick()
	expectMessage(t, k, 1, 0, "new", true)
	k.Tick()
	expectMessage(t, k, 1, 0, "new", false)
	k.Tick()
	k.Tick()
	expectSend(t, k, 0, 0, "new", api.OK)
	k.Tick()
	k.Tick()
	expectMessage(t, k, 1, 0, "new", true)
}

// The sample of one who fails and stops stays, and grows old.
func TestP12MessagesOutliveTheirSource(t *testing.T) {
	k := pairOf(t, "stop")
	expectSend(t, k, 0, 2, "one", api.OK)
	expectSend(t, k, 0, 3, "two", api.OK)
	expectErrno(t, "Raise(0)", k.Raise(0), api.OK)
	k.Tick()
	expectMessage(t, k, 1, 3, "two", true)
	ticks(k, 2)
	expectMessage(t, k, 1, 3, "two", false)
	expectMessage(t, k, 1, 2, "one", true)
	expectNoMessage(t, k, 1, 2, api.ErrEmpty)
}

func TestP12Ports(t *testing.T) {
	k := pairOf(t, "stop")
	for range 2 {
		p := k.Running()
		for place := range 4 {
			isSource := (place >= 2) == (p == 0)
			if isSource {
				expectNoMessage(t, k, p, place, api.ErrPort)
				expectSend(t, k, p, place, "", api.OK)
				expectNoMessage(t, k, p, place, api.ErrPort)
			} else {
				expectSend(t, k, p, place, "", api.ErrPort)
				expectSend(t, k, p, place, "toolong", api.ErrPort)
			}
		}
		for _, place := range append(oddNumbers, 4, 5, 7) {
			expectSend(t, k, p, place, "", api.ErrPort)
			expectSend(t, k, p, place, "toolong", api.ErrPort)
			expectNoMessage(t, k, p, place, api.ErrPort)
		}
		k.Tick()
	}
}

// A third partition is neither end of the channel between the other two.
func TestP12ThirdPartition(t *testing.T) {
	k := bootText(t, `module 3;
partition a { period 3; duration 1; fault stop; }
partition b { period 3; duration 1; fault stop; }
partition c { period 3; duration 1; fault stop; }
channel x a -> c queue 1 1;`)
	expectSend(t, k, 0, 0, "x", api.OK)
	k.Tick()
	expectSend(t, k, 1, 0, "", api.ErrPort)
	expectNoMessage(t, k, 1, 0, api.ErrPort)
	k.Tick()
	expectMessage(t, k, 2, 0, "x", true)
}

func TestP12FirstErrorCounts(t *testing.T) {
	k := pairOf(t, "stop")
	expectSend(t, k, 1, 9, "toolong", api.ErrWindow)
	expectNoMessage(t, k, 1, 9, api.ErrWindow)
	expectSend(t, k, 0, 2, "1", api.OK)
	expectSend(t, k, 0, 2, "2", api.OK)
	expectSend(t, k, 0, 2, "toolong", api.ErrLong)
	expectSend(t, k, 0, 2, "3", api.ErrFull)
	expectErrno(t, "Raise(0)", k.Raise(0), api.OK)
	k.Tick()
	expectSend(t, k, 0, 2, "toolong", api.ErrStopped)
	expectSend(t, k, 9, 9, "toolong", api.ErrPartition)
	expectNoMessage(t, k, 0, 2, api.ErrStopped)
	expectNoMessage(t, k, 9, 9, api.ErrPartition)
	expectMessage(t, k, 1, 2, "1", true)
	expectMessage(t, k, 1, 2, "2", true)
	expectNoMessage(t, k, 1, 2, api.ErrEmpty)
}
