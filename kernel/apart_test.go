package kernel_test

import (
	"math/rand"
	"sync"
	"testing"
	"unsafe"

	"bulkhead/api"
	"bulkhead/build"
	"bulkhead/kernel"
)

// leadersTo are p and all from whom a way along channels leads to p.
func leadersTo(m api.Manifest, p int) map[int]bool {
	leaders := map[int]bool{p: true}
	for range m.Partitions {
		for _, one := range m.Channels {
			if leaders[one.Target] {
				leaders[one.Source] = true
			}
			if leaders[one.Source] && one.Kind == api.Queue {
				leaders[one.Target] = true
			}
		}
	}
	return leaders
}

// drawnScript goes by the plan alone, whoever is stopped.
func drawnScript(r *rand.Rand, m api.Manifest) []call {
	plan, _ := build.Plan(m)
	var script []call
	for time := range 60 {
		for range r.Intn(8) {
			script = append(script, drawnCall(r, m, drawnCaller(r, m, plan[time%m.Frame])))
		}
		script = append(script, call{method: "Tick"})
	}
	return script
}

// without leaves of a script the ticks and what some do; what the others do is left out, or is
// something else, as drawn.
func without(r *rand.Rand, m api.Manifest, script []call, some map[int]bool) []call {
	var rest []call
	for _, c := range script {
		switch {
		case c.method == "Tick" || some[c.p]:
			rest = append(rest, c)
		case r.Intn(2) == 0:
			for range r.Intn(4) {
				rest = append(rest, drawnCall(r, m, c.p))
			}
		}
	}
	return rest
}

// answersOf are what some are answered along a script.
func answersOf(k machine, script []call, some map[int]bool) []answer {
	var answers []answer
	for _, c := range script {
		a := c.on(k)
		if c.method != "Tick" && some[c.p] {
			answers = append(answers, a)
		}
	}
	return answers
}

func expectSameAnswers(t *testing.T, m api.Manifest, got, want []answer) {
	t.Helper()
	if len(got) != len(want) {
		t.Fatalf("%+v: %d answers, want %d", m, len(got), len(want))
	}
	for i := range got {
		if got[i] != want[i] {
			t.Fatalf("%+v: answer %d is %+v, want %+v", m, i, got[i], want[i])
		}
	}
}

// What p is answered does not hang on what those do from whom no way leads to it.
func TestP13OthersDoNotShow(t *testing.T) {
	r := rand.New(rand.NewSource(13))
	apart, messages := 0, 0
	for range 6000 {
		m := drawnManifest(r)
		leaders := leadersTo(m, r.Intn(len(m.Partitions)))
		if len(leaders) == len(m.Partitions) {
			continue
		}
		apart++
		script := drawnScript(r, m)
		want := answersOf(boot(t, m), script, leaders)
		for _, one := range want {
			if one.message != "" {
				messages++
			}
		}
		for range 3 {
			expectSameAnswers(t, m, answersOf(boot(t, m), without(r, m, script, leaders), leaders), want)
		}
	}
	if apart < 500 || messages < 500 {
		t.Errorf("only %d manifests have somebody apart, with %d messages among the others", apart, messages)
	}
}

// The ways that P13 names are there: what a leader does, shows.
func TestP13LeadersShow(t *testing.T) {
	for _, kind := range []string{"queue", "sample"} {
		text := "module 2; partition a { period 2; duration 1; fault stop; } partition b { period 2; duration 1; fault stop; } channel c a -> b " + kind + " 1 1;"
		k := bootText(t, text)
		expectSend(t, k, 0, 0, "x", api.OK)
		expectErrno(t, "Raise(0)", k.Raise(0), api.OK)
		k.Tick()
		expectMessage(t, k, 1, 0, "x", true)
	}
	k := bootText(t, "module 2; partition a { period 2; duration 1; fault stop; } partition b { period 2; duration 1; fault restart; } channel c a -> b queue 1 1;")
	expectSend(t, k, 0, 0, "x", api.OK)
	k.Tick()
	expectErrno(t, "Raise(1)", k.Raise(1), api.OK)
	k.Tick()
	expectSend(t, k, 0, 0, "y", api.OK)
	expectSend(t, k, 0, 0, "z", api.ErrFull)
}

// The source of a sample does not see what its target does.
func TestP13SampleLeadsOneWay(t *testing.T) {
	text := "module 2; partition a { period 2; duration 1; fault stop; memory 0 1 change; } partition b { period 2; duration 1; fault ACTION; memory 0 1 change; } channel c a -> b sample 1 1;"
	if leaders := leadersTo(parsed(t, actionIn(text, "stop")), 0); len(leaders) != 1 {
		t.Fatalf("to 0 lead %v", leaders)
	}
	for _, action := range []string{"ignore", "stop", "restart"} {
		k := bootText(t, actionIn(text, action))
		for range 10 {
			expectSend(t, k, 0, 0, "x", api.OK)
			expectWrite(t, k, 0, 0, 9, api.OK)
			k.Tick()
			k.Receive(1, 0)
			k.Write(1, 0, 5)
			k.Raise(1)
			k.Tick()
			expectRead(t, k, 0, 0, 9, api.OK)
			expectState(t, k, 0, api.State{})
		}
	}
}

// What was done with one kernel does not show at another one, of the same image or of another.
func TestP2KernelsAreApart(t *testing.T) {
	r := rand.New(rand.NewSource(2))
	for range 500 {
		m, other := drawnManifest(r), drawnManifest(r)
		script := drawnScript(r, m)
		want := allAnswers(boot(t, m), script)
		k, twin, stranger := boot(t, m), boot(t, m), boot(t, other)
		var got []answer
		for _, c := range script {
			drawnCall(r, m, twin.Running()).on(twin)
			drawnCall(r, other, stranger.Running()).on(stranger)
			if r.Intn(3) == 0 {
				twin.Tick()
				stranger.Tick()
			}
			got = append(got, c.on(k))
		}
		expectSameAnswers(t, m, got, want)
	}
}

func allAnswers(k machine, script []call) []answer {
	var answers []answer
	for _, c := range script {
		answers = append(answers, c.on(k))
	}
	return answers
}

func TestP2KernelsAtTheSameTime(t *testing.T) {
	r := rand.New(rand.NewSource(22))
	m := drawnManifest(r)
	image := imageOf(t, m)
	script := drawnScript(r, m)
	want := allAnswers(boot(t, m), script)
	var group sync.WaitGroup
	for range 8 {
		group.Go(func() {
			for range 50 {
				k, _ := kernel.Boot(image)
				for i, one := range allAnswers(k, script) {
					if one != want[i] {
						t.Errorf("%+v = %+v, want %+v", script[i], one, want[i])
					}
				}
			}
		})
	}
	group.Wait()
}

func scribble(bytes []byte) {
	for i := range bytes {
		bytes[i] = 'x'
	}
}

// over are the bytes of a text, and a string that shares them.
func over(text string) ([]byte, string) {
	bytes := []byte(text)
	return bytes, unsafe.String(&bytes[0], len(bytes))
}

func TestP2ImageIsNotKept(t *testing.T) {
	for _, m := range bootable(t) {
		image := imageOf(t, m)
		bytes, text := over(image)
		k, e := kernel.Boot(text)
		if e != api.OK || string(bytes) != image {
			t.Fatalf("Boot = %d, and leaves %q", e, bytes)
		}
		scribble(bytes)
		expectNew(t, k, m)
	}
}

func TestP2MessagesAreNotKept(t *testing.T) {
	for _, channel := range []int{2, 3} {
		k := pairOf(t, "ignore")
		bytes, message := over("abc")
		expectSend(t, k, 0, channel, message, api.OK)
		if string(bytes) != "abc" {
			t.Errorf("Send leaves %q", bytes)
		}
		scribble(bytes)
		k.Tick()
		expectMessage(t, k, 1, channel, "abc", true)
	}
}

// A sample is answered more than once, each time in memory of its own.
func TestP2MessagesAreNewMemory(t *testing.T) {
	k := pairOf(t, "ignore")
	expectSend(t, k, 0, 3, "abc", api.OK)
	k.Tick()
	for range 3 {
		message, _, _ := k.Receive(1, 3)
		expectMessage(t, k, 1, 3, "abc", true)
		scribble(unsafe.Slice(unsafe.StringData(message), len(message)))
	}
	expectMessage(t, k, 1, 3, "abc", true)
}
