package machine_test

import (
	"fmt"
	"math"
	"math/rand"
	"slices"
	"strings"
	"testing"

	"countermand/api"
	"countermand/code"
	"countermand/machine"
	"countermand/script"
	"countermand/task"
)

// no is a script's rooms, where none of its semaphores is asked for anything.
var no [api.MostObjs]int64

func many[T any](n int, x T) []T {
	var l []T
	for range n {
		l = append(l, x)
	}
	return l
}

// P19.1: the numbers of kinds are the document's.
func TestNumbers(t *testing.T) {
	got := []int{machine.Began, machine.Ended, machine.Failed, machine.Parked, machine.Woken, machine.Done, machine.Rang, machine.Clock}
	if !slices.Equal(got, []int{1, 2, 3, 4, 5, 6, 7, 8}) {
		t.Errorf("kinds of events: %v", got)
	}
	got = []int{machine.Sleep, machine.Await, machine.Mutex, machine.RW, machine.Cond, machine.Once, machine.Group, machine.Sema, machine.Caller, machine.Waiter, machine.Flight}
	if !slices.Equal(got, []int{1, 2, 3, 4, 5, 6, 7, 8, 9, 10, 11}) {
		t.Errorf("what tasks wait for: %v", got)
	}
}

// P19.1: a script that may not be makes no machine.
func TestNewOfWrongScripts(t *testing.T) {
	good := programs("Halt")
	long := programs(strings.Repeat("Yield;", 23) + "Yield")
	for name, s := range map[string]script.Script{
		"nothing":                {},
		"no programs":            {Programs: [][]code.Instr{}},
		"nine programs":          {Programs: many(9, good[0])},
		"an empty program":       {Programs: [][]code.Instr{good[0], {}}},
		"a program of 25":        {Programs: [][]code.Instr{many(25, good[0][0])}},
		"no such Op":             {Programs: [][]code.Instr{{{Op: 47}}}},
		"an Op below 0":          {Programs: [][]code.Instr{{{Op: -1}}}},
		"no such register":       {Programs: [][]code.Instr{{{Op: code.Set, A: 6}}}},
		"a register below 0":     {Programs: [][]code.Instr{{{Op: code.Set, A: -1}}}},
		"no such object":         {Programs: [][]code.Instr{{{Op: code.Lock, N: 4}}}},
		"no such program":        {Programs: [][]code.Instr{{{Op: code.Spawn, B: 8}}}},
		"no such place":          {Programs: [][]code.Instr{{{Op: code.Zero, N: 2}}}},
		"what isn't asked for":   {Programs: [][]code.Instr{{{Op: code.Halt, N: 1}}}},
		"a room below 0":         {Rooms: [4]int64{0, 0, 0, -1}, Programs: good},
		"the least room":         {Rooms: [4]int64{math.MinInt64}, Programs: good},
		"an item of no kind":     {Programs: good, Items: []script.Item{{Do: 3}}},
		"a begin of program 8":   {Programs: good, Items: []script.Item{{Do: script.Begin, A: 8}}},
		"a pick of task 16":      {Programs: good, Items: []script.Item{{}, {Do: script.Pick, A: 16}}},
		"a clock of something":   {Programs: good, Items: []script.Item{{Do: script.Clock, A: 1, N: 1}}},
		"two hundred and one":    {Programs: good, Items: many(201, script.Item{})},
		"more than 4000 bytes":   {Programs: many(8, long[0]), Items: many(185, script.Item{})},
		"a program, and a wrong": {Programs: [][]code.Instr{good[0], {{Op: code.Fail, B: 1}}}},
	} {
		if m, e := machine.New(s); m != nil || e != api.ErrArg {
			t.Errorf("%s: New = %v, %d", name, m, e)
		}
	}
}

// P19.1: a script that may be makes a machine at the beginning; its items count for nothing.
func TestNewAtTheBeginning(t *testing.T) {
	long := programs(strings.Repeat("Yield;", 23) + "Yield")
	for name, s := range map[string]script.Script{
		"rooms of 0":        {Programs: programs("Halt")},
		"the greatest":      {Rooms: [4]int64{math.MaxInt64, math.MaxInt64, math.MaxInt64, math.MaxInt64}, Programs: programs("Halt")},
		"items":             {Programs: programs("Halt", "Yield"), Items: []script.Item{item("b0"), item("p0"), item("c5"), item("b7"), item("p15")}},
		"two hundred items": {Programs: programs("Halt"), Items: many(200, item("b0"))},
		"eight programs":    {Programs: many(8, long[0]), Items: many(184, item("c1"))},
	} {
		m, e := machine.New(s)
		if m == nil || e != api.OK {
			t.Errorf("%s: New = %v, %d", name, m, e)
			continue
		}
		want := machine.Shot{
			Errs: []api.Errno{api.OK}, Causes: []int64{0}, Holders: [4]int{-1, -1, -1, -1}, Writers: [4]int{-1, -1, -1, -1}, Next: api.Forever,
		}
		if d := differ(m.Shot(), want); d != "" {
			t.Errorf("%s: %s", name, d)
		}
		if l := m.Step(item("p0")); tell(l) != "failed 0 0 3" {
			t.Errorf("%s: %s", name, tell(l))
		}
		if l := m.Step(item("b0")); tell(l) != "began 0 0 -1" {
			t.Errorf("%s: %s", name, tell(l))
		}
	}
}

// P19.1, R3: what is passed in is left as it was, and what becomes of it later changes nothing.
func TestNewKeepsNothing(t *testing.T) {
	made := func() script.Script {
		return script.Script{Rooms: [4]int64{3}, Programs: programs("Set 1 5; Sleep 1; Spawn 2 1", "Fail 0"), Items: []script.Item{item("b0")}}
	}
	s := made()
	m, _ := machine.New(s)
	late, _ := machine.New(s)
	for _, x := range []string{"b0", "p0", "p0", "c5", "p0", "p1"} {
		m.Step(item(x))
		if !script.Same(s, made()) {
			t.Fatalf("behind %s the script is another one: %v", x, s)
		}
	}
	s.Programs[0][0].N, s.Programs[0][1].Op = 9, code.Forget
	s.Programs[1] = nil
	s.Rooms[0] = 0
	var got []machine.Event
	for _, x := range []string{"b0", "p0", "p0", "c5", "p0", "p1"} {
		got = append(got, late.Step(item(x))...)
	}
	if tell(got) != "began 0 0 -1, parked 0 1 0, clock -1 0 5, rang -1 0 5, woken 0 1 0, began 1 1 -1, ended 1 0 0" {
		t.Errorf("%s", tell(got))
	}
}

// P19.1: an item that may not be is told as that, and changes nothing.
func TestWrongItems(t *testing.T) {
	b := start(t, no, programs("Yield; Yield", "Halt"))
	b.step(t, item("b0"))
	for _, x := range []script.Item{
		{Do: -1}, {Do: 3}, {Do: math.MinInt}, {Do: math.MaxInt}, {Do: 3, A: 1}, {Do: 1 << 8}, {Do: 1 << 32}, {Do: 1<<32 + 1},
		{Do: script.Begin, A: -1}, {Do: script.Begin, A: 8}, {Do: script.Begin, A: 9}, {Do: script.Begin, A: math.MinInt}, {Do: script.Begin, A: math.MaxInt}, {Do: script.Begin, A: 1 << 32},
		{Do: script.Begin, N: 1}, {Do: script.Begin, N: -1}, {Do: script.Begin, A: 1, N: math.MinInt64}, {Do: script.Begin, N: math.MaxInt64},
		{Do: script.Pick, A: -1}, {Do: script.Pick, A: 16}, {Do: script.Pick, A: math.MinInt}, {Do: script.Pick, A: math.MaxInt}, {Do: script.Pick, A: 1 << 32},
		{Do: script.Pick, N: 1}, {Do: script.Pick, N: -1}, {Do: script.Pick, A: 15, N: 1 << 32}, {Do: script.Pick, N: math.MinInt64},
		{Do: script.Clock, A: 1, N: 5}, {Do: script.Clock, A: -1}, {Do: script.Clock, A: 1 << 32, N: 1}, {Do: script.Clock, A: math.MaxInt, N: math.MaxInt64},
	} {
		if l := b.step(t, x); tell(l) != "failed -1 0 7" {
			t.Errorf("%+v: %s", x, tell(l))
		}
	}
}

// P19.1, the section Items: begin, clock and pick.
func TestItems(t *testing.T) {
	for _, s := range []story{
		{"the document's example", no, []string{"Set 0 5; Sleep 0"}, `
			b0: began 0 0 -1
			p0:
			p0: parked 0 1 0
			is 0.kind=1 0.obj=0 0.ctx=-1 0.reg=-1 0.lock=-1 0.n=0 next=5
			c5: clock -1 0 5, rang -1 0 5, woken 0 1 0
			is next=9223372036854775807 0.0=5 0.at=2`},
		{"each program is begun, and the one behind the last isn't", no, []string{"Halt", "Yield", "Halt; Yield"}, `
			b0 b2 b1: began 0 0 -1, began 1 2 -1, began 2 1 -1
			b3: failed -1 0 3
			b7: failed -1 0 3
			is begun=3 0.prog=0 1.prog=2 2.prog=1 2.team=-1 2.at=0 2.state=1`},
		{"a table that is full", no, []string{"Halt"}, `
			b0 b0 b0 b0 b0 b0 b0 b0: began 0 0 -1, began 1 0 -1, began 2 0 -1, began 3 0 -1, began 4 0 -1, began 5 0 -1, began 6 0 -1, began 7 0 -1
			b0 b0 b0 b0 b0 b0 b0: began 8 0 -1, began 9 0 -1, began 10 0 -1, began 11 0 -1, began 12 0 -1, began 13 0 -1, began 14 0 -1
			p15: failed 15 0 3
			b0: began 15 0 -1
			b0: failed -1 0 2
			b1: failed -1 0 3
			p15: ended 15 0 0
			b0: failed -1 0 2
			is begun=16`},
		{"the clock", no, []string{"Halt"}, `
			c0: clock -1 0 0
			c-1: clock -1 0 0
			c7: clock -1 0 7
			c-7: clock -1 0 7
			c-9223372036854775808: clock -1 0 7
			c9223372036854775799: clock -1 0 9223372036854775806
			c9223372036854775807: clock -1 0 9223372036854775807
			c1: clock -1 0 9223372036854775807
			is now=9223372036854775807`},
		{"alarms of tasks and of contexts, several at one time and some behind each other", no, []string{"Set 0 5; Sleep 0", "Set 0 3; Sleep 0", "WithTimeout 1 0 5; WithTimeout 2 0 3; Await 1"}, `
			b0 b1 b0 b2: began 0 0 -1, began 1 1 -1, began 2 0 -1, began 3 2 -1
			p0 p0: parked 0 1 0
			p3 p3 p3: parked 3 2 0
			p1 p1 p2 p2: parked 1 1 0, parked 2 1 0
			is next=3
			c2: clock -1 0 2
			c1: clock -1 0 3, rang -1 18 3, done -1 2 11, rang -1 1 3, woken 1 1 0
			is next=5 now=3
			c9: clock -1 0 12, rang -1 0 5, woken 0 1 0, rang -1 17 5, done -1 1 11, woken 3 2 11, rang -1 2 5, woken 2 1 0
			is next=9223372036854775807
			c9: clock -1 0 21`},
		{"past the greatest time", no, []string{"Set 0 9223372036854775807; Sleep 0; Sleep 0; WithTimeout 1 2 1; Err 1 1"}, `
			c5 b0: clock -1 0 5, began 0 0 -1
			p0 p0: parked 0 1 0
			is next=9223372036854775807
			c9223372036854775801: clock -1 0 9223372036854775806
			c5: clock -1 0 9223372036854775807, rang -1 0 9223372036854775807, woken 0 1 0
			p0: parked 0 1 0
			c-3: clock -1 0 9223372036854775807, rang -1 0 9223372036854775807, woken 0 1 0
			p0 p0:
			is 0.1=11 err1=11 cause1=11
			c0: clock -1 0 9223372036854775807`},
		{"picks", no, []string{"Set 0 2; Sleep 0; Halt", "Yield"}, `
			p0: failed 0 0 3
			p15: failed 15 0 3
			b0 b1: began 0 0 -1, began 1 1 -1
			p2: failed 2 0 3
			p0 p0: parked 0 1 0
			p0 p0: failed 0 0 5, failed 0 0 5
			is 0.at=2
			p1:
			is 1.at=1 1.state=1
			p1: ended 1 0 0
			is 1.at=1 1.state=3 1.err=0
			p1: failed 1 0 5
			c2 p0: clock -1 0 2, rang -1 0 2, woken 0 1 0, ended 0 0 0
			p0: failed 0 0 5
			is 0.at=3`},
	} {
		s.run(t)
	}
}

// P19.1, the section Instructions: those of a task's own.
func TestOwn(t *testing.T) {
	for _, s := range []story{
		{"Halt and Fail", no, []string{"Halt; Yield", "Set 3 -9223372036854775808; Fail 3", "Fail 0"}, `
			b0 b1 b2: began 0 0 -1, began 1 1 -1, began 2 2 -1
			p0: ended 0 0 0
			p1 p1: ended 1 0 -9223372036854775808
			p2: ended 2 0 0
			is 0.state=3 0.at=1 0.err=0 1.err=-9223372036854775808 1.at=2 2.err=0`},
		{"Set, Move, Add and Now", no, []string{"Set 0 9223372036854775807; Set 1 -9223372036854775808; Set 2 1; Move 3 0; Add 3 2; Move 4 1; Add 1 1; Add 4 2; Add 4 0; Now 5; Add 2 2; Move 2 2"}, `
			b0 c6: began 0 0 -1, clock -1 0 6
			p0 p0 p0 p0:
			is 0.0=9223372036854775807 0.1=-9223372036854775808 0.2=1 0.3=9223372036854775807 0.4=0 0.5=0
			p0 p0 p0 p0:
			is 0.3=9223372036854775807 0.1=-9223372036854775808 0.4=-9223372036854775807
			p0 p0 p0 p0:
			is 0.4=0 0.5=6 0.2=2 0.at=12`},
		{"Zero and Less", no, []string{"Zero 0 3; Halt; Halt; Set 0 1; Zero 0 0; Less 0 0 0; Less 0 1 0; Less 1 0 9; Halt; Set 2 -9223372036854775808; Less 2 1 12; Halt; Zero 1 13"}, `
			b0: began 0 0 -1
			p0:
			is 0.at=3
			p0 p0:
			is 0.at=5
			p0:
			is 0.at=6
			p0:
			is 0.at=7
			p0:
			is 0.at=9
			p0 p0:
			is 0.at=12
			p0:
			is 0.at=13
			p0: ended 0 0 0`},
		{"who goes round in one place", no, []string{"Zero 0 0"}, `
			b0 p0 p0 p0: began 0 0 -1
			is 0.at=0 0.state=1`},
		{"Yield changes the place alone", no, []string{"Yield; Yield"}, `
			b0 p0: began 0 0 -1
			is 0.at=1 0.state=1
			p0 p0: ended 0 0 0`},
		{"Spawn", no, []string{"Set 1 -5; Spawn 1 2; Spawn 1 1; Spawn 1 0; Zero 0 2", "Halt"}, `
			b0: began 0 0 -1
			p0 p0: failed 0 0 3
			is 0.1=-5 0.at=2 begun=1
			p0: began 1 1 -1
			is 0.1=1 1.team=-1
			p0: began 2 0 -1
			is 0.1=2 begun=3
			p0 p0 p0 p0 p0: began 3 1 -1, began 4 0 -1, began 5 1 -1
			p0 p0 p0 p0 p0 p0 p0 p0 p0 p0 p0 p0: began 6 0 -1, began 7 1 -1, began 8 0 -1, began 9 1 -1, began 10 0 -1, began 11 1 -1, began 12 0 -1, began 13 1 -1
			p0 p0 p0: began 14 0 -1, began 15 1 -1
			p0: failed 0 0 2
			is 0.1=15 begun=16 0.at=4`},
		{"Spawn of programs behind the registers", no, append(many(7, "Spawn 0 7; Spawn 0 6"), "Halt"), `
			b0 p0 p0: began 0 0 -1, began 1 7 -1, began 2 6 -1`},
		{"Sleep", no, []string{"Sleep 0; Set 0 -1; Sleep 0; Set 0 -9223372036854775808; Sleep 0; Set 0 1; Sleep 0; Sleep 0"}, `
			b0 p0 p0 p0 p0 p0 p0: began 0 0 -1
			is 0.state=1 0.at=6 next=9223372036854775807
			p0: parked 0 1 0
			is next=1
			c0: clock -1 0 0
			c1: clock -1 0 1, rang -1 0 1, woken 0 1 0
			p0: parked 0 1 0
			is next=2 0.0=1
			c10: clock -1 0 11, rang -1 0 2, woken 0 1 0`},
	} {
		s.run(t)
	}
}

// P19.1, the section Instructions: contexts.
func TestContexts(t *testing.T) {
	for _, s := range []story{
		{"WithCancel, and Cancel", no, []string{"WithCancel 1 0; WithCancel 2 1; WithCancel 3 1; WithoutCancel 4 1; WithCancel 5 2; Cancel 0 8; Cancel 2 7; Cancel 2 9; Cancel 1 0; Cancel 5 1; WithCancel 0 5; WithoutCancel 0 5"}, `
			b0 p0 p0 p0 p0 p0: began 0 0 -1
			is 0.1=1 0.2=2 0.3=3 0.4=4 0.5=5 ctxs=6
			p0:
			p0: done -1 2 10, done -1 5 10
			is err2=10 cause2=7 err5=10 cause5=7 err1=0 cause1=0
			p0:
			p0: done -1 1 10, done -1 3 10
			is err1=10 cause1=10 cause2=7 err3=10 cause3=10 err4=0 err0=0
			p0:
			is cause5=7
			p0 p0:
			is ctxs=8 err6=10 cause6=7 err7=0 cause7=0 0.0=7`},
		{"WithTimeout", no, []string{"WithTimeout 1 0 3; WithTimeout 2 1 9; WithTimeout 3 0 0; WithTimeout 3 0 -9223372036854775808; WithTimeout 4 0 9223372036854775807; Cancel 4 5; WithTimeout 5 4 2; WithoutCancel 5 1; WithTimeout 5 0 20"}, `
			c4 b0 p0 p0: clock -1 0 4, began 0 0 -1
			is next=7 0.1=1 0.2=2 err1=0
			p0 p0:
			is err3=11 cause3=11 err4=11 cause4=11 0.3=4 next=7
			p0:
			is err5=0 0.4=5
			p0: done -1 5 10
			p0:
			is err6=10 cause6=5 0.5=6
			p0 p0:
			c3: clock -1 0 7, rang -1 17 7, done -1 1 11, done -1 2 11
			is err1=11 cause1=11 err2=11 cause2=11 err7=0 next=13
			c6: clock -1 0 13, rang -1 18 13
			is next=24
			c20: clock -1 0 33, rang -1 24 24, done -1 8 11
			is next=9223372036854775807
			c9223372036854775807: clock -1 0 9223372036854775807, rang -1 21 9223372036854775807`},
		{"a deadline of one over another one that is earlier", no, []string{"WithTimeout 1 0 9; WithTimeout 2 1 3; WithCancel 3 2; Cancel 2 4"}, `
			b0 p0 p0 p0: began 0 0 -1
			c3: clock -1 0 3, rang -1 18 3, done -1 2 11, done -1 3 11
			p0:
			c6: clock -1 0 9, rang -1 17 9, done -1 1 11
			is cause2=11 err2=11`},
		{"one alarm tells those of its own time alone", no, []string{"WithTimeout 1 0 5; WithTimeout 2 0 3; WithTimeout 3 0 5; WithTimeout 4 3 4"}, `
			b0 p0 p0 p0 p0: began 0 0 -1
			c9: clock -1 0 9, rang -1 18 3, done -1 2 11, rang -1 20 4, done -1 4 11, rang -1 17 5, done -1 1 11, done -1 3 11, rang -1 19 5`},
		{"contexts that there aren't", no, []string{"Set 1 -1; Set 2 1; Set 3 9223372036854775807; Set 4 -9223372036854775808; WithCancel 5 1; WithTimeout 5 2 1; WithValue 5 3 1; WithoutCancel 5 4; Cancel 1 0; Err 5 2; Cause 5 3; Value 5 4 1; Await 2; After 5 2 0; LockCtx 3 0; Acquire 4 0 0"}, `
			b0 p0 p0 p0 p0: began 0 0 -1
			p0 p0 p0 p0: failed 0 0 3, failed 0 0 3, failed 0 0 3, failed 0 0 3
			p0 p0 p0 p0: failed 0 0 3, failed 0 0 3, failed 0 0 3, failed 0 0 3
			p0 p0 p0 p0: failed 0 0 3, failed 0 0 3, failed 0 0 3, failed 0 0 3
			is 0.5=0 ctxs=1 0.at=16 0.state=1`},
		{"an arena that is full", no, []string{"WithCancel 1 1; Zero 0 0", "Set 1 23; Set 2 24; WithCancel 3 1; WithTimeout 3 1 5; WithValue 3 1 1; WithoutCancel 3 1; WithCancel 3 2; WithTimeout 3 2 5; WithValue 3 2 1; WithoutCancel 3 2; Cancel 1 0"}, `
			b0 p0 p0 p0 p0 p0 p0 p0 p0 p0 p0 p0 p0: began 0 0 -1
			p0 p0 p0 p0 p0 p0 p0 p0 p0 p0 p0 p0 p0 p0 p0 p0 p0 p0 p0 p0 p0 p0 p0 p0 p0 p0 p0 p0 p0 p0 p0 p0 p0:
			is ctxs=24 0.1=23
			p0 p0: failed 0 0 2
			is 0.1=23 ctxs=24
			b1 p1 p1: began 1 1 -1
			p1 p1 p1 p1: failed 1 0 2, failed 1 0 2, failed 1 0 2, failed 1 0 2
			p1 p1 p1 p1: failed 1 0 3, failed 1 0 3, failed 1 0 3, failed 1 0 3
			is ctxs=24 1.3=0 next=9223372036854775807
			p1: done -1 23 10`},
		{"the last context's alarm", no, []string{"WithCancel 1 0; Zero 0 0", "WithTimeout 1 0 6"}, `
			b0 b1: began 0 0 -1, began 1 1 -1
			p0 p0 p0 p0 p0 p0 p0 p0 p0 p0 p0 p0 p0 p0 p0 p0 p0 p0 p0 p0 p0 p0:
			p0 p0 p0 p0 p0 p0 p0 p0 p0 p0 p0 p0 p0 p0 p0 p0 p0 p0 p0 p0 p0 p0:
			is ctxs=23
			p1:
			is ctxs=24 1.1=23 next=6
			c6: clock -1 0 6, rang -1 39 6, done -1 23 11`},
		{"WithValue and Value", no, []string{"Set 1 100; WithValue 2 0 7; Set 1 200; WithValue 1 2 -9; WithoutCancel 3 1; Value 4 3 7; Value 5 3 -9; Value 0 3 8; Cancel 1 0; Set 4 9; Value 4 1 7; Value 5 0 7"}, `
			b0 p0 p0: began 0 0 -1
			is 0.2=1
			p0 p0 p0 p0 p0 p0:
			is 0.1=2 0.3=3 0.4=0 0.5=200 0.0=0
			p0: done -1 2 10
			p0 p0 p0:
			is 0.4=0 0.5=0`},
		{"a value is that of the register A, ahead of its being told", no, []string{"Set 1 100; WithValue 1 0 7; Value 2 1 7; Value 1 1 7"}, `
			b0 p0 p0 p0 p0: began 0 0 -1
			is 0.2=100 0.1=100`},
		{"Err and Cause", no, []string{"WithCancel 1 0; Err 2 1; Cause 3 1; Cancel 1 -9223372036854775808; Err 2 1; Cause 3 1; WithTimeout 4 0 0; Err 4 4; Err 5 0; Set 4 2; Cause 4 4; Cause 1 1; Set 5 1; Err 5 5"}, `
			b0 p0 p0 p0: began 0 0 -1
			is 0.2=0 0.3=0
			p0: done -1 1 10
			p0 p0:
			is 0.2=10 0.3=-9223372036854775808
			p0 p0 p0:
			is 0.4=11 0.5=0
			p0 p0 p0 p0 p0:
			is 0.4=11 0.1=-9223372036854775808 0.5=10`},
		{"Await", no, []string{"WithCancel 1 0; Await 1; Await 5", "Set 2 1; Await 2", "Set 1 1; Cancel 1 3; Await 1; Move 0 1"}, `
			b0 b1 b2: began 0 0 -1, began 1 1 -1, began 2 2 -1
			p0 p0: parked 0 2 0
			is 0.kind=2 0.obj=0 0.ctx=1 0.reg=1 0.lock=-1 0.n=0
			p1 p1: parked 1 2 0
			p2 p2: done -1 1 10, woken 0 2 10, woken 1 2 10
			is 0.1=10 1.2=10 0.state=1
			p2 p2:
			is 2.0=10 2.1=10
			p0: parked 0 2 0
			is 0.ctx=0 0.reg=5
			c9223372036854775807: clock -1 0 9223372036854775807`},
	} {
		s.run(t)
	}
}

// P19.1, P19.3, the section Words: what comes of contexts that are done now, while tasks are parked under them.
func TestDone(t *testing.T) {
	for _, s := range []story{
		{"a Mutex' waiter leaves, and who is behind it is next", no, []string{"WithCancel 1 0; Lock 2; Cancel 1 7; Unlock 2", "Set 3 1; LockCtx 3 2", "Lock 2"}, `
			b0 b1 b2 b1: began 0 0 -1, began 1 1 -1, began 2 2 -1, began 3 1 -1
			p0 p0:
			p1 p1 p2 p3 p3: parked 1 3 2, parked 2 3 2, parked 3 3 2
			is 1.kind=3 1.obj=2 1.ctx=1 1.reg=3 1.lock=-1 1.n=0
			p0: done -1 1 10, woken 1 3 10, woken 3 3 10
			is 1.3=10 3.3=10 holder2=0
			p0: woken 2 3 0
			is holder2=2`},
		{"a Sema's waiter leaves, and those behind it are given room", [4]int64{0, 5}, []string{"WithCancel 1 0; Set 2 4; Acquire 0 2 1; Cancel 1 7", "Set 1 1; Set 2 3; Acquire 1 2 1", "Set 2 1; Acquire 1 2 1", "Acquire 1 2 1"}, `
			b0 b1 b2 b3 b2: began 0 0 -1, began 1 1 -1, began 2 2 -1, began 3 3 -1, began 4 2 -1
			p0 p0 p0:
			is held1=4 0.0=0
			p1 p1 p1: parked 1 8 1
			is 1.ctx=1 1.reg=1 1.obj=1
			p2 p2 p3 p4 p4: parked 2 8 1, parked 3 8 1, parked 4 8 1
			p0: done -1 1 10, woken 1 8 10, woken 2 8 0, woken 3 8 0
			is held1=5 1.1=10 2.1=0 4.state=2`},
		{"who is doomed leaves as well", [4]int64{5}, []string{"WithCancel 1 0; Set 2 9223372036854775807; Acquire 1 2 0", "Set 2 5; Acquire 1 2 0", "Set 1 1; Cancel 1 0"}, `
			b0 b1 b2: began 0 0 -1, began 1 1 -1, began 2 2 -1
			p0 p0 p0: parked 0 8 0
			p1 p1:
			is held0=5
			p2 p2: done -1 1 10, woken 0 8 10
			is held0=5 0.1=10`},
		{"the least task leaves, though another one stands ahead of it; and who is given room by that is parked no more", [4]int64{4}, []string{"WithCancel 1 0; Set 2 4; Acquire 0 2 0; Cancel 1 7", "Set 1 1; Set 2 0; Acquire 1 2 0", "Set 1 1; Set 2 3; Acquire 1 2 0"}, `
			b0 b1 b2 b1: began 0 0 -1, began 1 1 -1, began 2 2 -1, began 3 1 -1
			p0 p0 p0:
			p2 p2 p2: parked 2 8 0
			p3 p3 p3: parked 3 8 0
			p1 p1 p1: parked 1 8 0
			p0: done -1 1 10, woken 1 8 10, woken 2 8 10, woken 3 8 0
			is held0=4 1.1=10 2.1=10 3.1=0`},
		{"a Cond's waiter has its lock again, where nobody holds it", no, []string{"WithCancel 1 0; Cancel 1 9", "Set 4 1; Lock 2; WaitCtx 4 2 3; Unlock 2"}, `
			b0 b1 p0: began 0 0 -1, began 1 1 -1
			p1 p1 p1: parked 1 5 3
			is 1.kind=5 1.obj=3 1.ctx=1 1.reg=4 1.lock=2 1.n=0 holder2=-1
			p0: done -1 1 10, woken 1 5 10
			is 1.4=10 holder2=1 1.state=1
			p1:
			is holder2=-1`},
		{"a Cond's waiter waits for its lock, where another one holds it", no, []string{"WithCancel 1 0; Lock 2; Cancel 1 9; Broadcast 3; Unlock 2; Yield", "Set 4 1; Lock 2; WaitCtx 4 2 3; Unlock 2"}, `
			b1 b0 p1: began 0 1 -1, began 1 0 -1
			p0 p0 p0: parked 0 5 3
			p1:
			p1: done -1 1 10
			is 0.state=2 0.kind=3 0.obj=2 0.ctx=-1 0.reg=4 0.lock=-1 0.n=10 0.4=1
			p1:
			p1: woken 0 3 10
			is 0.4=10 holder2=0 0.state=1`},
		{"one who waits for its lock again stays, whatever is done", no, []string{"WithCancel 1 0; WithCancel 2 0; Lock 0; Signal 0; Cancel 1 0; Cancel 2 0; Unlock 0", "Set 1 1; Lock 0; WaitCtx 1 0 0"}, `
			b0 b1 p0 p0: began 0 0 -1, began 1 1 -1
			p1 p1 p1: parked 1 5 0
			p0 p0:
			is 1.kind=3 1.ctx=-1 1.reg=1 1.n=0
			p0: done -1 1 10
			p0: done -1 2 10
			p0: woken 1 3 0
			is 1.1=0`},
		{"several of each kind, under several contexts, by the one that stands over them", [4]int64{1, 0, 0, 0},
			[]string{"WithCancel 1 0; WithCancel 2 1; WithCancel 3 1; Lock 0; Acquire 0 4 0; Cancel 1 5", "Set 1 3; Await 1", "Set 1 2; LockCtx 1 0", "Set 1 2; Set 2 2; Acquire 1 2 0", "Set 1 1; Lock 1; WaitCtx 1 1 0"}, `
			b0 b1 b2 b3 b4: began 0 0 -1, began 1 1 -1, began 2 2 -1, began 3 3 -1, began 4 4 -1
			p0 p0 p0 p0 p0:
			p1 p1 p2 p2 p3 p3 p3 p4 p4 p4: parked 1 2 0, parked 2 3 0, parked 3 8 0, parked 4 5 0
			p0: done -1 1 10, done -1 2 10, done -1 3 10, woken 4 5 10, woken 2 3 10, woken 3 8 10, woken 1 2 10
			is holder0=0 holder1=4 held0=0`},
		{"a deadline wakes who is parked under it, and below it", no, []string{"WithTimeout 1 0 4; WithCancel 2 1; Lock 1; Yield", "Set 1 2; LockCtx 1 1", "Set 1 1; Await 1"}, `
			b0 b1 b2 p0 p0 p0: began 0 0 -1, began 1 1 -1, began 2 2 -1
			p1 p1 p2 p2: parked 1 3 1, parked 2 2 0
			c3: clock -1 0 3
			c1: clock -1 0 4, rang -1 17 4, done -1 1 11, done -1 2 11, woken 2 2 11, woken 1 3 11
			is 1.1=11 2.1=11 holder1=0`},
		{"who asks under a context that is done is told its error, and asks for nothing", [4]int64{1}, []string{"WithCancel 1 0; Cancel 1 3; Lock 1; WaitCtx 1 1 0; Set 1 1; LockCtx 1 0; Set 1 1; Set 2 -1; Acquire 1 2 0; Set 1 1; Await 1", "Set 3 2; WithTimeout 3 0 -1; Set 2 1; Acquire 3 2 0"}, `
			b0 b1 p0: began 0 0 -1, began 1 1 -1
			p0: done -1 1 10
			p0 p0:
			is 0.1=10 holder1=0 0.state=1
			p0 p0:
			is 0.1=10 holder0=-1
			p0 p0 p0:
			is 0.1=10 held0=0
			p0 p0:
			is 0.1=10
			p1 p1 p1 p1:
			is 1.3=11 held0=0`},
		{"what comes after, where tasks leave", no, []string{"WithCancel 1 0; WithCancel 2 1; After 3 2 1; After 4 1 2; After 5 0 1; Cancel 1 0", "Halt", "Yield", "Set 1 1; Await 1"}, `
			b0 b3 p0 p0 p0 p0 p0: began 0 0 -1, began 1 3 -1
			is 0.3=0 0.4=1 0.5=2
			p1 p1: parked 1 2 0
			p0: done -1 1 10, done -1 2 10, woken 1 2 10, began 2 2 -1, began 3 1 -1
			is begun=4`},
	} {
		s.run(t)
	}
}

// P19.1: what comes after a context.
func TestAfter(t *testing.T) {
	for _, s := range []story{
		{"of a context that is done it is begun at once", no, []string{"WithCancel 1 0; Cancel 1 0; After 2 1 1; After 3 1 0; StopAfter 2; StopAfter 3", "Halt"}, `
			b0 p0: began 0 0 -1
			p0: done -1 1 10
			p0: began 1 1 -1
			is 0.2=0
			p0: began 2 0 -1
			is 0.3=1
			p0 p0:
			is 0.2=0 0.3=0`},
		{"no such program", no, []string{"Set 2 -3; After 2 0 1; After 2 0 2; After 2 0 7; Set 1 1; After 2 1 7; After 2 0 0"}, `
			b0 p0: began 0 0 -1
			p0 p0 p0: failed 0 0 3, failed 0 0 3, failed 0 0 3
			p0 p0: failed 0 0 3
			is 0.2=-3
			p0:
			is 0.2=0`},
		{"StopAfter", no, []string{"WithCancel 1 0; After 2 1 1; After 3 1 1; Move 4 2; StopAfter 4; Move 4 2; StopAfter 4; Set 4 2; StopAfter 4; Set 4 -1; StopAfter 4; Set 4 9223372036854775807; StopAfter 4; Set 4 -9223372036854775808; StopAfter 4; Cancel 1 0; Set 3 1; StopAfter 3", "Halt"}, `
			b0 p0 p0 p0 p0 p0: began 0 0 -1
			is 0.4=1 0.2=0 0.3=1
			p0 p0:
			is 0.4=0
			p0 p0:
			is 0.4=0
			p0 p0 p0 p0 p0 p0:
			is 0.4=0
			p0: done -1 1 10, began 1 1 -1
			p0 p0:
			is 0.3=0`},
		{"the one that was told by its own number is stopped, the other one isn't", no, []string{"WithCancel 1 0; After 2 1 1; After 3 1 2; StopAfter 3; Cancel 1 0", "Halt", "Yield"}, `
			b0 p0 p0 p0 p0: began 0 0 -1
			is 0.3=1
			p0: done -1 1 10, began 1 1 -1`},
		{"a list that is full", no, []string{"After 1 0 0; Zero 0 0", "Set 1 -4; After 1 0 0; After 1 0 7; Set 2 9; After 1 2 0; Set 2 15; StopAfter 2; After 1 0 0"}, `
			b0 b1 p0 p0 p0 p0 p0 p0 p0 p0 p0 p0: began 0 0 -1, began 1 1 -1
			p0 p0 p0 p0 p0 p0 p0 p0 p0 p0 p0 p0 p0 p0 p0 p0 p0 p0 p0 p0 p0:
			is 0.1=15
			p1 p1: failed 1 0 2
			is 1.1=-4
			p1: failed 1 0 3
			p1 p1: failed 1 0 3
			p1 p1:
			is 1.2=1
			p1: failed 1 0 2`},
		{"a table that is full", no, []string{"WithCancel 1 0; After 2 1 0; After 3 1 1; Cancel 1 0; After 4 1 1", "Halt"}, `
			b0 p0 p0 p0 b1 b1 b1 b1: began 0 0 -1, began 1 1 -1, began 2 1 -1, began 3 1 -1, began 4 1 -1
			b1 b1 b1 b1 b1 b1 b1 b1 b1 b1: began 5 1 -1, began 6 1 -1, began 7 1 -1, began 8 1 -1, began 9 1 -1, began 10 1 -1, began 11 1 -1, began 12 1 -1, began 13 1 -1, began 14 1 -1
			p0: done -1 1 10, began 15 0 -1, failed -1 0 2
			p0: failed -1 0 2
			is 0.4=2 0.at=5 begun=16 0.state=1`},
		{"by a deadline", no, []string{"WithTimeout 1 0 5; WithTimeout 2 0 5; After 3 2 1; After 3 1 2; After 3 2 0", "Halt", "Yield"}, `
			b0 p0 p0 p0 p0 p0: began 0 0 -1
			c5: clock -1 0 5, rang -1 17 5, done -1 1 11, done -1 2 11, began 1 2 -1, began 2 1 -1, began 3 0 -1, rang -1 18 5`},
		{"of a context that was done at once", no, []string{"WithTimeout 1 0 -5; After 2 1 0; WithCancel 3 1; After 4 3 0"}, `
			b0 p0: began 0 0 -1
			p0: began 1 0 -1
			p0:
			p0: began 2 0 -1
			is 0.3=2 err2=11`},
	} {
		s.run(t)
	}
}

// P19.1: mutexes, rw locks and conditions.
func TestLocks(t *testing.T) {
	for _, s := range []story{
		{"a mutex is handed on, in order", no, []string{"Lock 3; Unlock 3; Unlock 3"}, `
			b0 b0 b0 p1: began 0 0 -1, began 1 0 -1, began 2 0 -1
			is holder3=1 holder0=-1
			p0 p2: parked 0 3 3, parked 2 3 3
			is 0.kind=3 0.obj=3 0.ctx=-1 0.reg=-1 0.lock=-1 0.n=0
			p1: woken 0 3 0
			is holder3=0
			p1: failed 1 0 4
			is holder3=0 1.at=3
			p0: woken 2 3 0
			p2 p2: failed 2 0 4
			is holder3=-1`},
		{"who is woken by a Lock is told nothing into a register", no, []string{"Set 0 5; Lock 0; Unlock 0"}, `
			b0 b0 p0 p0 p1 p1: began 0 0 -1, began 1 0 -1, parked 1 3 0
			p0: woken 1 3 0
			is 1.0=5 1.1=0`},
		{"who holds a mutex waits for it for ever, but under a context", no, []string{"WithCancel 1 0; Lock 0; LockCtx 1 0; Unlock 0", "Lock 1; Lock 1; Unlock 1", "Set 1 1; Cancel 1 0; Unlock 1"}, `
			b0 b1 b2 p0 p0: began 0 0 -1, began 1 1 -1, began 2 2 -1
			p0: parked 0 3 0
			p1 p1: parked 1 3 1
			p1: failed 1 0 5
			p2 p2: done -1 1 10, woken 0 3 10
			p2: failed 2 0 4
			p0:
			is holder0=-1 holder1=1`},
		{"TryLock", no, []string{"Set 0 7; TryLock 0 1; TryLock 0 1; Unlock 1", "TryLock 2 1"}, `
			b0 b1 p0 p0: began 0 0 -1, began 1 1 -1
			is 0.0=1 holder1=0
			p0:
			is 0.0=0
			p1:
			is 1.2=0 1.state=1
			p0:
			is holder1=-1`},
		{"LockCtx", no, []string{"WithCancel 1 0; Set 4 9; LockCtx 1 2; Unlock 2", "Set 1 1; LockCtx 1 2; LockCtx 1 2"}, `
			b0 b1 p0 p0: began 0 0 -1, began 1 1 -1
			p0:
			is 0.1=0 holder2=0
			p1 p1: parked 1 3 2
			is 1.ctx=1 1.reg=1
			p0: woken 1 3 0
			is 1.1=0 holder2=1
			p1: parked 1 3 2
			is 1.ctx=0`},
		{"Unlock of one who doesn't hold it, but waits for another one", no, []string{"Unlock 0; Lock 0; Unlock 1; Unlock 0"}, `
			b0 p0: began 0 0 -1, failed 0 0 4
			p0 p0: failed 0 0 4
			is holder0=0 0.at=3
			p0:
			is holder0=-1`},
		{"an rw lock", no, []string{"RLock 1; RWUnlock 1", "WLock 1; RWUnlock 1; RWUnlock 1"}, `
			b0 b0 b1 b0 b0 b1: began 0 0 -1, began 1 0 -1, began 2 1 -1, began 3 0 -1, began 4 0 -1, began 5 1 -1
			p0 p1:
			is readers1=2 writer1=-1
			p2 p4 p3: parked 2 4 1, parked 4 4 1, parked 3 4 1
			is 2.kind=4 2.obj=1 2.ctx=-1 2.reg=-1 2.lock=-1 2.n=0
			p0:
			is readers1=1
			p1: woken 2 4 0
			is writer1=2 readers1=0
			p2: woken 4 4 0, woken 3 4 0
			is readers1=2 writer1=-1
			p2: failed 2 0 4
			p5: parked 5 4 1
			p3 p4: woken 5 4 0
			p5 p5: failed 5 0 4
			is writer1=-1 readers1=0`},
		{"one who holds an rw lock asks for it", no, []string{"RLock 0; RLock 0; WLock 0; RWUnlock 0; WLock 0; WLock 0; RLock 0; RLock 1"}, `
			b0 p0: began 0 0 -1
			p0 p0: failed 0 0 4, failed 0 0 4
			is readers0=1 0.state=1 0.at=3
			p0 p0:
			is writer0=0
			p0 p0 p0: failed 0 0 4, failed 0 0 4
			is writer0=0 readers0=0 readers1=1`},
		{"Wait and Signal", no, []string{"Lock 1; Wait 1 2; Unlock 1", "Lock 1; Signal 2; Signal 2; Signal 2; Unlock 1", "Signal 2"}, `
			b0 b0 b1 b2 p0: began 0 0 -1, began 1 0 -1, began 2 1 -1, began 3 2 -1
			p1: parked 1 3 1
			p0: parked 0 5 2, woken 1 3 0
			is 0.kind=5 0.obj=2 0.ctx=-1 0.reg=-1 0.lock=1 0.n=0 holder1=1
			p1: parked 1 5 2
			is holder1=-1
			p3: woken 0 5 0
			is holder1=0
			p2: parked 2 3 1
			p0: woken 2 3 0
			p2:
			is 1.state=2 1.kind=3 1.obj=1 1.ctx=-1 1.reg=-1 1.lock=-1 1.n=0
			p2 p2:
			p2: woken 1 3 0
			is holder1=1 1.at=2`},
		{"Broadcast, to some who left other locks", no, []string{"Lock 1; Wait 1 0; Unlock 1", "Lock 2; Wait 2 0; Unlock 2", "Lock 2; Broadcast 0; Broadcast 0; Broadcast 1; Unlock 2"}, `
			b0 b1 b0 b1 b2: began 0 0 -1, began 1 1 -1, began 2 0 -1, began 3 1 -1, began 4 2 -1
			p3 p3 p0 p0 p2 p2 p1 p1: parked 3 5 0, parked 0 5 0, parked 2 5 0, parked 1 5 0
			p4:
			p4: woken 0 5 0
			is holder1=0 holder2=4 3.kind=3 2.kind=3 1.kind=3 3.obj=2 2.obj=1 1.obj=2
			p4 p4:
			p4: woken 3 3 0
			p3: woken 1 3 0
			p0: woken 2 3 0`},
		{"Wait without the lock", no, []string{"Lock 0; Wait 1 0; Set 1 9; WaitCtx 1 1 0; Set 1 0; WaitCtx 1 1 0; Set 1 9; WaitCtx 1 0 0; Unlock 0"}, `
			b0 p0 p0: began 0 0 -1, failed 0 0 4
			p0 p0: failed 0 0 4
			p0 p0: failed 0 0 4
			p0 p0: failed 0 0 3
			is holder0=0 0.1=9 0.at=8 0.state=1
			p0:
			is holder0=-1`},
		{"WaitCtx is told by a Signal", no, []string{"WithCancel 2 0; Lock 1; WaitCtx 2 1 0; Unlock 1", "Signal 0", "Lock 1; Signal 0; Unlock 1"}, `
			b0 b1 b2 p0 p0 p0: began 0 0 -1, began 1 1 -1, began 2 2 -1, parked 0 5 0
			is 0.ctx=1 0.reg=2 0.lock=1 0.obj=0
			p1: woken 0 5 0
			is 0.2=0 holder1=0`},
		{"WaitCtx is told, and waits for its lock", no, []string{"WithCancel 2 0; Lock 1; WaitCtx 2 1 0; Unlock 1", "Lock 1; Signal 0; Unlock 1"}, `
			b0 b1 p0 p0 p0: began 0 0 -1, began 1 1 -1, parked 0 5 0
			p1 p1:
			is 0.2=1 0.kind=3 0.reg=2 0.ctx=-1 0.n=0
			p1: woken 0 3 0
			is 0.2=0`},
		{"who tells has the lock, and waits itself", no, []string{"Lock 0; Signal 0; Wait 0 0"}, `
			b0 b0 p0 p0 p0: began 0 0 -1, began 1 0 -1, parked 0 5 0
			p1 p1:
			is 0.kind=3
			p1: parked 1 5 0, woken 0 3 0
			is holder0=0`},
	} {
		s.run(t)
	}
}

// P19.1: onces, groups and semaphores.
func TestRooms(t *testing.T) {
	for _, s := range []story{
		{"a once", no, []string{"Set 1 8; OnceBegin 1 3; OnceEnd 3; OnceBegin 1 3", "Set 1 8; OnceEnd 3; OnceBegin 1 3"}, `
			b0 b1 b1 p1 p1: began 0 0 -1, began 1 1 -1, began 2 1 -1, failed 1 0 4
			p0 p0:
			is 0.1=1 once3=1 once0=0
			p2 p2 p2: failed 2 0 4, parked 2 6 3
			is 2.kind=6 2.obj=3 2.ctx=-1 2.reg=1 2.lock=-1 2.n=0 2.1=8
			p1: parked 1 6 3
			p0: woken 2 6 0, woken 1 6 0
			is once3=2 2.1=0 1.1=0
			p0:
			is 0.1=0 0.at=4`},
		{"a once that is begun by who does it, and ended twice", no, []string{"Set 1 8; OnceBegin 2 0; OnceBegin 1 0; OnceEnd 0; OnceEnd 0; OnceEnd 1"}, `
			b0 p0 p0: began 0 0 -1
			p0: failed 0 0 4
			is 0.1=8 once0=1 0.2=1
			p0 p0: failed 0 0 4
			p0: failed 0 0 4
			is once0=2 once1=0`},
		{"a group", no, []string{"GroupWait 2; Set 1 2; GroupAdd 1 2; Set 1 -1; GroupAdd 1 2; GroupAdd 1 2; GroupAdd 1 2", "GroupWait 2; Yield", "Set 1 9; GroupWait 2"}, `
			b0 b1 b2 p0 p0 p0: began 0 0 -1, began 1 1 -1, began 2 2 -1
			is count2=2 count0=0
			p2 p2 p1: parked 2 7 2, parked 1 7 2
			is 1.kind=7 1.obj=2 1.ctx=-1 1.reg=-1 1.lock=-1 1.n=0
			p0 p0:
			is count2=1
			p0: woken 2 7 0, woken 1 7 0
			is count2=0 2.1=9 2.0=0
			p0: failed 0 0 1
			is count2=0 0.at=7`},
		{"a group's ends", no, []string{"Set 1 9223372036854775807; GroupAdd 1 0; Set 2 1; GroupAdd 2 0; GroupAdd 1 0; GroupAdd 3 0; Set 2 -9223372036854775808; GroupAdd 2 0; Set 2 -9223372036854775807; GroupAdd 2 0; GroupWait 0"}, `
			b0 p0 p0: began 0 0 -1
			is count0=9223372036854775807
			p0 p0: failed 0 0 2
			p0: failed 0 0 2
			p0:
			p0 p0: failed 0 0 1
			is count0=9223372036854775807
			p0 p0 p0:
			is count0=0 0.state=1`},
		{"a semaphore", [4]int64{0, 0, 0, 5}, []string{"Set 1 0; Set 2 4; Acquire 1 2 3; Release 2 3", "Set 2 3; Acquire 1 2 3; Release 2 3; Release 2 3", "Set 2 1; TryAcquire 1 2 3; Acquire 1 2 3"}, `
			b0 b1 b2 p0 p0 p0: began 0 0 -1, began 1 1 -1, began 2 2 -1
			is held3=4 0.1=0
			p1 p1: parked 1 8 3
			is 1.kind=8 1.obj=3 1.ctx=0 1.reg=1 1.lock=-1 1.n=0
			p2 p2:
			is 2.1=0 held3=4
			p2: parked 2 8 3
			p0: woken 1 8 0, woken 2 8 0
			is held3=4
			p1:
			is held3=1
			p1: failed 1 0 4
			is held3=1 1.at=4`},
		{"what is told where room is given", [4]int64{5}, []string{"WithCancel 1 0; Set 2 5; Acquire 1 2 0; TryAcquire 3 2 0; Release 2 0; TryAcquire 3 2 0; TryAcquire 2 4 0"}, `
			b0 p0 p0 p0: began 0 0 -1
			is 0.1=0 held0=5
			p0:
			is 0.3=0
			p0 p0:
			is held0=5 0.3=1
			p0:
			is 0.2=1`},
		{"weights of 0, below it, and the greatest", [4]int64{0, 9223372036854775807}, []string{"Set 1 -1; Set 2 -9223372036854775808; Acquire 0 1 0; TryAcquire 0 2 0; Release 1 0; Release 2 0; TryAcquire 3 4 0; Acquire 0 4 0; Release 4 0; Set 1 1; Release 1 0; TryAcquire 3 1 0; Set 2 9223372036854775807; Acquire 0 2 1; TryAcquire 3 1 1; TryAcquire 3 4 1; Release 2 1"}, `
			b0 p0 p0: began 0 0 -1
			p0 p0 p0 p0: failed 0 0 1, failed 0 0 1, failed 0 0 1, failed 0 0 1
			is 0.0=0 held0=0
			p0 p0 p0:
			is 0.3=1 held0=0
			p0 p0: failed 0 0 4
			p0:
			is 0.3=0
			p0 p0:
			is held1=9223372036854775807
			p0:
			is 0.3=0
			p0:
			is 0.3=1
			p0:
			is held1=0`},
		{"of a context that there isn't, and a weight that may not be", no, []string{"Set 1 1; Set 2 -1; Acquire 1 2 0; WithCancel 1 0; Acquire 1 2 0; Cancel 1 0; Acquire 1 2 0"}, `
			b0 p0 p0 p0: began 0 0 -1, failed 0 0 3
			p0 p0: failed 0 0 1
			p0: done -1 1 10
			p0:
			is 0.1=10`},
		{"whose wait is behind another one's, though it would fit", [4]int64{2}, []string{"Set 1 2; Acquire 0 1 0; Release 1 0", "Set 1 1; Acquire 0 1 0", "TryAcquire 2 1 0; Acquire 0 1 0"}, `
			b0 b1 b2 b0 p0 p0: began 0 0 -1, began 1 1 -1, began 2 2 -1, began 3 0 -1
			p3 p3 p1 p1: parked 3 8 0, parked 1 8 0
			p2 p2: parked 2 8 0
			is 2.2=0
			p0: woken 3 8 0
			is held0=2`},
	} {
		s.run(t)
	}
}

// P19.1: teams.
func TestTeams(t *testing.T) {
	for _, s := range []story{
		{"members end by Halt, by Fail, and by their place behind the program", no, []string{"Go 1 1 2; Go 2 2 2; TryGo 3 3 2; TeamWait 4 2; TeamWait 5 2", "Halt", "Set 0 -7; Fail 0", "Yield"}, `
			b0 p0: began 0 0 -1, began 1 1 2
			is 0.1=1 active2=1 1.team=2 active0=0
			p0 p0: began 2 2 2, began 3 3 2
			is 0.2=2 0.3=3 active2=3
			p0: parked 0 10 2
			is 0.kind=10 0.obj=2 0.ctx=-1 0.reg=4 0.lock=-1 0.n=0
			p1: ended 1 0 0
			is active2=2 first2=0
			p2 p2: ended 2 0 -7
			is active2=1 first2=-7
			p3 p3: ended 3 0 0, woken 0 10 -7
			is active2=0 0.4=-7
			p0:
			is 0.5=-7 0.state=1`},
		{"the first error stays", no, []string{"Go 1 1 0; Go 1 2 0; Go 1 3 0; TeamWait 2 0", "Halt", "Set 0 5; Fail 0", "Set 0 6; Fail 0"}, `
			b0 p0 p0 p0: began 0 0 -1, began 1 1 0, began 2 2 0, began 3 3 0
			p0: parked 0 10 0
			p3 p3 p2 p2: ended 3 0 6, ended 2 0 5
			is first0=6 active0=1
			p1: ended 1 0 0, woken 0 10 6`},
		{"nobody is at work", no, []string{"Set 1 4; TeamWait 1 3; TeamWait 2 3"}, `
			b0 p0 p0 p0: began 0 0 -1
			is 0.1=0 0.2=0`},
		{"a limit, and Callers", no, []string{"Set 1 1; SetLimit 1 1; Go 2 1 1; Go 3 2 1; Go 3 1 1", "Fail 0", "Set 0 9; Fail 0", "TeamWait 5 1"}, `
			b0 b0 b3 b3 p0 p0: began 0 0 -1, began 1 0 -1, began 2 3 -1, began 3 3 -1
			p0: began 4 1 1
			p0: parked 0 9 1
			is 0.kind=9 0.obj=1 0.ctx=-1 0.reg=3 0.lock=-1 0.n=2 active1=1
			p1 p1: failed 1 0 5
			p1: parked 1 9 1
			is 1.reg=2 1.n=1
			p3 p2: parked 3 10 1, parked 2 10 1
			p4: ended 4 0 0, began 5 2 1, woken 0 9 5
			is 0.3=5 active1=1
			p5 p5: ended 5 0 9, began 6 1 1, woken 1 9 6
			is first1=9 1.2=6
			p6: ended 6 0 0, woken 3 10 9, woken 2 10 9
			is active1=0 3.5=9
			p0: began 7 1 1
			p7: ended 7 0 0`},
		{"TryGo", no, []string{"Set 1 1; SetLimit 1 0; TryGo 2 1 0; TryGo 3 1 0; TryGo 3 2 0", "Halt"}, `
			b0 p0 p0: began 0 0 -1
			p0: began 1 1 0
			is 0.2=1 0.3=0
			p0:
			is 0.3=-1 active0=1 0.state=1
			p0: failed 0 0 3
			is 0.3=-1`},
		{"no such program", no, []string{"Set 1 4; Go 1 1 0; TryGo 1 1 0; Go 1 7 0; SetLimit 0 0; Go 1 1 0; TryGo 1 1 0"}, `
			b0 p0 p0 p0 p0: began 0 0 -1, failed 0 0 3, failed 0 0 3, failed 0 0 3
			p0 p0 p0: failed 0 0 3, failed 0 0 3
			is 0.1=4 active0=0 begun=1`},
		{"limits", no, []string{"SetLimit 0 0; TryGo 1 0 0; Set 2 -9223372036854775808; SetLimit 2 0; TryGo 1 0 0; SetLimit 0 0", "Set 2 9223372036854775807; SetLimit 2 1; Go 0 1 1; SetLimit 3 1", "Set 2 4294967296; SetLimit 2 2; Go 0 1 2"}, `
			b0 b1 b2 p0 p0: began 0 0 -1, began 1 1 -1, began 2 2 -1
			is 0.1=-1
			p0 p0 p0: began 3 0 0
			is active0=1
			p0: failed 0 0 5
			p1 p1 p1: began 4 1 1
			p1: failed 1 0 5
			p2 p2 p2: began 5 1 2`},
		{"a limit of 0, and its Callers", no, []string{"SetLimit 0 0; Go 1 0 0", "Set 1 5; SetLimit 1 0; TeamWait 1 0"}, `
			b0 b1 p0 p0: began 0 0 -1, began 1 1 -1, parked 0 9 0
			p1 p1: failed 1 0 5
			p1:
			is 1.1=0 active0=0`},
		{"a table that is full", no, []string{"Set 1 1; SetLimit 1 0; Go 2 1 0; Go 3 2 0; Go 3 1 0; TryGo 4 1 0; Go 4 3 0; TryGo 4 3 0", "Set 0 6; Fail 0", "Halt"}, `
			b0 b0 p0 p0 p0: began 0 0 -1, began 1 0 -1, began 2 1 0
			p0: parked 0 9 0
			p1 p1 p1: failed 1 0 5, parked 1 9 0
			b2 b2 b2 b2 b2 b2 b2: began 3 2 -1, began 4 2 -1, began 5 2 -1, began 6 2 -1, began 7 2 -1, began 8 2 -1, began 9 2 -1
			b2 b2 b2 b2 b2 b2: began 10 2 -1, began 11 2 -1, began 12 2 -1, began 13 2 -1, began 14 2 -1, began 15 2 -1
			is begun=16 active0=1
			p2 p2: ended 2 0 6, failed 0 0 2, woken 0 9 -1, failed 1 0 2, woken 1 9 -1
			is active0=0 first0=6 0.3=-1 1.2=-1 0.state=1
			p0 p0: failed 0 0 2, failed 0 0 2
			p0 p0: failed 0 0 3, failed 0 0 3
			is 0.3=-1 0.4=0`},
		{"the last place in the table is a Caller's, and Waiters are told behind the Callers that failed", no, []string{"Set 1 1; SetLimit 1 0; Go 2 1 0; Go 3 1 0", "Halt", "TeamWait 1 0"}, `
			b0 b0 b0 b2 p0 p0 p0: began 0 0 -1, began 1 0 -1, began 2 0 -1, began 3 2 -1, began 4 1 0
			p0 p1 p1 p1 p2 p2 p2: parked 0 9 0, failed 1 0 5, parked 1 9 0, failed 2 0 5, parked 2 9 0
			p3: parked 3 10 0
			b1 b1 b1 b1 b1 b1 b1 b1 b1 b1: began 5 1 -1, began 6 1 -1, began 7 1 -1, began 8 1 -1, began 9 1 -1, began 10 1 -1, began 11 1 -1, began 12 1 -1, began 13 1 -1, began 14 1 -1
			p4: ended 4 0 0, began 15 1 0, woken 0 9 15
			is active0=1 1.state=2
			p15: ended 15 0 0, failed 1 0 2, woken 1 9 -1, failed 2 0 2, woken 2 9 -1, woken 3 10 0
			is active0=0 begun=16`},
		{"a member waits for its own team", no, []string{"Go 1 1 0", "TeamWait 0 0"}, `
			b0 p0 p1: began 0 0 -1, began 1 1 0, parked 1 10 0
			p1: failed 1 0 5`},
		{"members begin members, and others are none", no, []string{"Go 1 1 3", "Go 1 2 3; Spawn 2 2; Halt", "Halt"}, `
			b0 p0 p1 p1: began 0 0 -1, began 1 1 3, began 2 2 3, began 3 2 -1
			is active3=2 2.team=3 3.team=-1
			p3 p2: ended 3 0 0, ended 2 0 0
			is active3=1`},
	} {
		s.run(t)
	}
}

// P19.1: flights.
func TestFlights(t *testing.T) {
	for _, s := range []story{
		{"one leads, others join, and all have the answer", no, []string{"Set 1 7; Do 2 1 3; Set 4 -9223372036854775808; Finish 4 3; Do 2 1 3"}, `
			b0 b0 b0 p0 p0: began 0 0 -1, began 1 0 -1, began 2 0 -1
			is 0.2=1
			p2 p2 p1 p1: parked 2 11 3, parked 1 11 3
			is 2.kind=11 2.obj=3 2.ctx=-1 2.reg=2 2.lock=-1 2.n=0
			p0 p0: woken 2 11 -9223372036854775808, woken 1 11 -9223372036854775808
			is 2.2=-9223372036854775808 0.at=4
			p0:
			is 0.2=1
			p1 p1: failed 1 0 4`},
		{"who leads one", no, []string{"Set 1 7; Do 2 1 0; Do 3 1 0; Set 1 8; Do 3 1 0; Do 3 1 1; Finish 1 0; Finish 1 0; Finish 1 1"}, `
			b0 p0 p0: began 0 0 -1
			p0 p0 p0: failed 0 0 4, failed 0 0 4
			is 0.3=0 0.2=1
			p0:
			is 0.3=1
			p0 p0 p0: failed 0 0 4`},
		{"a call that is forgotten", no, []string{"Set 1 7; Do 2 1 0; Finish 1 0", "Set 1 7; Forget 1 0; Forget 1 0; Forget 2 0"}, `
			b0 b0 b0 b0 b1 p0 p0 p1 p1: began 0 0 -1, began 1 0 -1, began 2 0 -1, began 3 0 -1, began 4 1 -1, parked 1 11 0
			p4 p4 p4 p4:
			is 4.at=4
			p2 p2:
			is 2.2=1
			p3 p3: parked 3 11 0
			p0: woken 1 11 7
			p2: woken 3 11 7`},
		{"calls of other keys, and other flights", no, []string{"Set 1 -1; Do 2 1 0", "Set 1 9223372036854775807; Do 2 1 0", "Set 1 -1; Do 2 1 1", "Do 2 1 0"}, `
			b0 b1 b2 b3 p0 p0 p1 p1 p2 p2 p3: began 0 0 -1, began 1 1 -1, began 2 2 -1, began 3 3 -1
			is 0.2=1 1.2=1 2.2=1 3.2=1`},
		{"Finish of one who leads none, and of one whom nobody joins", no, []string{"Finish 0 0; Set 0 5; Do 1 0 0; Finish 0 1; Finish 0 0; Finish 0 0"}, `
			b0 p0: began 0 0 -1, failed 0 0 4
			p0 p0 p0: failed 0 0 4
			p0:
			p0: failed 0 0 4
			is 0.1=1`},
	} {
		s.run(t)
	}
}

// P19.1: which error is told where several would be.
func TestErrorsInTheirOrder(t *testing.T) {
	for _, s := range []story{
		{"WaitCtx: ErrHeld, ahead of a context that there isn't, and of one that is done", no, []string{"Set 1 9; WaitCtx 1 0 0; WithCancel 1 0; Cancel 1 0; WaitCtx 1 0 0; Lock 0; WaitCtx 1 0 0"}, `
			b0 p0 p0: began 0 0 -1, failed 0 0 4
			p0 p0: done -1 1 10
			p0: failed 0 0 4
			is 0.1=1
			p0 p0:
			is 0.1=10 holder0=0`},
		{"Go: ErrName, ahead of ErrFull", no, []string{"Go 0 1 0; TryGo 0 1 0; Spawn 0 1; Go 0 0 0; TryGo 0 0 0; Spawn 0 0", "Halt; Halt"}, `
			b0 p0 p0 p0: began 0 0 -1, began 1 1 0, began 2 1 0, began 3 1 -1
			b1 b1 b1 b1 b1 b1 b1 b1 b1 b1 b1 b1: began 4 1 -1, began 5 1 -1, began 6 1 -1, began 7 1 -1, began 8 1 -1, began 9 1 -1, began 10 1 -1, began 11 1 -1, began 12 1 -1, began 13 1 -1, began 14 1 -1, began 15 1 -1
			p0 p0 p0: failed 0 0 2, failed 0 0 2, failed 0 0 2
			is 0.0=3 active0=2
			b2: failed -1 0 3
			b1: failed -1 0 2`},
	} {
		s.run(t)
	}
}

// P19.2: a shot tells of each object what it has, and of no other one.
func TestShot(t *testing.T) {
	b := start(t, [4]int64{1, 2, 3, 4}, programs(
		"Lock 1; WLock 2; OnceBegin 3 3; OnceBegin 3 2; OnceEnd 2; Set 1 4; GroupAdd 1 0; TryAcquire 2 1 3; Go 3 2 1; TryGo 3 2 1; Go 3 2 2; WithTimeout 4 0 6; WithCancel 5 0; Cancel 5 -3; Set 0 9; Sleep 0",
		"RLock 0; Lock 3; Set 1 1; GroupAdd 1 3; TryAcquire 2 1 0; RLock 3",
		"Set 0 -6; Fail 0",
	))
	for _, x := range strings.Fields("c2 b0 b1 b1 p0 p0 p0 p0 p0 p0 p0 p0 p0 p0 p0 p0 p0 p0 p0 p0 p1 p2 p1 p1 p1 p1 p1 p2 p5 p5") {
		b.step(t, item(x))
	}
	s := b.m.Shot()
	want := machine.Shot{
		Now: 2, Next: 8, Begun: 6, Tasks: s.Tasks,
		Errs: []api.Errno{0, 0, api.ErrCanceled}, Causes: []int64{0, 0, -3},
		Holders: [4]int{-1, 0, -1, 1}, Writers: [4]int{-1, -1, 0, -1}, Readers: [4]int{2, 0, 0, 1}, States: [4]int{0, 0, 2, 1},
		Counts: [4]int64{4, 0, 0, 1}, Held: [4]int64{1, 0, 0, 4}, Active: [4]int{0, 2, 0, 0}, Firsts: [4]int64{0, 0, -6, 0},
	}
	if d := differ(s, want); d != "" {
		t.Error(d)
	}
	tasks := []task.Task{
		{State: task.Parked, Prog: 0, At: 16, Team: -1, Regs: [6]int64{9, 4, 1, 5, 1, 2}, Wait: task.Park{Kind: machine.Sleep, Ctx: -1, Reg: -1, Lock: -1}},
		{State: task.Ready, Prog: 1, At: 6, Team: -1, Regs: [6]int64{0, 1, 1}},
		{State: task.Parked, Prog: 1, At: 2, Team: -1, Wait: task.Park{Kind: machine.Mutex, Obj: 3, Ctx: -1, Reg: -1, Lock: -1}},
		{State: task.Ready, Prog: 2, Team: 1},
		{State: task.Ready, Prog: 2, Team: 1},
		{State: task.Ended, Prog: 2, At: 2, Team: 2, Regs: [6]int64{-6}, Err: -6},
	}
	if !slices.Equal(s.Tasks, tasks) {
		t.Errorf("tasks %+v, want %+v", s.Tasks, tasks)
	}
}

// edges are numbers of which there are things behind ready, at its ends, and beyond them.
var edges = []int64{
	0, 1, 2, 3, 4, 5, 6, 7, 8, 15, 16, 17, 23, 24, 25, 40, -1, -2, 1 << 8, 1<<16 + 1, 1 << 32, 1<<32 + 1, -1 << 32, math.MaxInt64, math.MaxInt64 - 1, math.MaxInt64 - 3, math.MinInt64, math.MinInt64 + 1, math.MinInt64 + 3,
}

// ready is a machine where much has happened: its task 0 is the one whose turn it will be, to do an instruction, with two registers set ahead of that.
func ready(t *testing.T, x code.Instr, a, b int64) *both {
	t.Helper()
	own := []code.Instr{{Op: code.Set, A: 1, N: a}, {Op: code.Set, A: 2, N: b}, x}
	progs := append([][]code.Instr{own}, programs(
		"WithCancel 1 0; Cancel 1 7; WithTimeout 2 0 5; WithoutCancel 3 1; Set 4 50; WithValue 4 2 1; After 5 4 1; After 5 2 3; StopAfter 5; WithTimeout 5 0 3; Set 0 1; SetLimit 0 1; Go 0 3 1; Set 0 3; GroupAdd 0 0; TryAcquire 0 0 0; Set 0 7; Do 0 0 0",
		"Set 1 2; Set 2 2; Acquire 1 2 0; Set 0 7; Do 0 0 0", "Set 0 4; Fail 0", "Set 1 4; Await 1", "Lock 0; RLock 0; OnceBegin 0 0; Set 1 2; Wait 0 0", "Lock 0; RLock 0; GroupWait 0", "Go 1 3 1; TeamWait 1 1",
	)...)
	w := start(t, [api.MostObjs]int64{5, 0, math.MaxInt64, 1}, progs)
	do := "b0 b1 b2 b4 b5 b6 b7 " + strings.Repeat("p1 ", 18) + "p2 p2 p2 p3 p3 p4 p4 p4 p4 p4 p5 p5 p5 p6 p0 p0"
	for _, s := range strings.Fields(do) {
		w.step(t, item(s))
	}
	return w
}

// P19.1, P19.3: each instruction, at registers with each of the edges, does what the document says; and so does what comes behind.
func TestEdges(t *testing.T) {
	r := rand.New(rand.NewSource(19))
	for op := range ops {
		if !strings.Contains(code.Form(op), "r") {
			edge(t, r, op, 0, 0)
			continue
		}
		seconds := []int64{0, edges[r.Intn(len(edges))], edges[r.Intn(len(edges))]}
		for _, a := range edges {
			for _, b := range append(seconds, a) {
				edge(t, r, op, a, b)
				edge(t, r, op, b, a)
			}
		}
	}
}

// edge lets an Op be done at two numbers, and then all else.
func edge(t *testing.T, r *rand.Rand, op int, a, b int64) {
	t.Helper()
	x := code.Instr{Op: op}
	for i, c := range code.Form(op) {
		switch {
		case i == 0 && c == 'r':
			x.A = 1
		case i == 1 && c == 'r':
			x.B = 2
		case i == 1 && c == 'p':
			x.B = r.Intn(api.MostProgs)
		case i == 2 && c == 'p':
			x.N = int64(r.Intn(api.MostProgs))
		case i == 2 && c == 'j':
			x.N = 1
		case i == 2 && c == 'n':
			x.N = edges[r.Intn(len(edges))]
		case i == 2 && c == 'o':
			x.N = int64(r.Intn(2))
		}
	}
	w := ready(t, x, a, b)
	for _, s := range strings.Fields("p0 p5 p1 p4 c2 p0 p2 p6 c9 p7 p3 p0") {
		w.step(t, item(s))
	}
}

// P19.3, R4, R5: two machines keep apart, whichever goes on first; each tells what it tells alone.
func TestApart(t *testing.T) {
	for seed := range 150 {
		r := rand.New(rand.NewSource(int64(seed)))
		one, other := drawPrograms(r, weights[0]), drawPrograms(r, weights[seed%len(weights)])
		x, y := start(t, [api.MostObjs]int64{4, 1}, one), start(t, [api.MostObjs]int64{0, 3}, other)
		for range 60 {
			if r.Intn(2) == 0 {
				x.step(t, drawItem(r, len(x.w.tasks), len(one)))
			} else {
				y.step(t, drawItem(r, len(y.w.tasks), len(other)))
			}
		}
		x.look(t)
		y.look(t)
	}
}

// P19.3, R4: a machine that did something else first, but what fails, tells the same behind it.
func TestFailuresCountForNothing(t *testing.T) {
	progs := programs("Lock 0; Sleep 0; Unlock 0; Set 0 3; Sleep 0")
	plain, late := start(t, no, progs), start(t, no, progs)
	for _, x := range strings.Fields("b0 b0 p0 p1 p0 p0 p1 p0 p0 c3 p0") {
		for _, bad := range []script.Item{{Do: 7}, {Do: script.Begin, A: 3}, {Do: script.Pick, A: 9}, {Do: script.Begin, A: 1, N: 1}} {
			if l := late.step(t, bad); len(l) != 1 || l[0].Kind != machine.Failed {
				t.Fatalf("%+v: %s", bad, tell(l))
			}
		}
		if want, got := plain.step(t, item(x)), late.step(t, item(x)); !slices.Equal(got, want) {
			t.Errorf("%s: %s, want %s", x, tell(got), tell(want))
		}
		if d := differ(late.m.Shot(), plain.m.Shot()); d != "" {
			t.Error(d)
		}
	}
}

// R1: a machine goes on, however long it is picked.
func TestLongWays(t *testing.T) {
	m, _ := machine.New(script.Script{Programs: programs("Set 1 1; Add 2 1; Lock 0; Unlock 0; GroupAdd 1 0; Do 3 2 0; Finish 2 0; Sleep 1; Zero 0 1")})
	m.Step(item("b0"))
	var last []machine.Event
	for range 20000 {
		m.Step(item("p0"))
		last = m.Step(item("c1"))
	}
	s := m.Shot()
	if s.Now != 20000 || s.Counts[0] != s.Tasks[0].Regs[2] && s.Counts[0]+1 != s.Tasks[0].Regs[2] || s.Tasks[0].Regs[2] < 2400 || s.Begun != 1 || last[0] != (machine.Event{Kind: machine.Clock, Task: -1, N: 20000}) {
		t.Errorf("%+v, %v", s, last)
	}
	if got := fmt.Sprint(m.Step(script.Item{Do: 2, N: -1})); got != "[{8 -1 0 20000}]" {
		t.Error(got)
	}
}
