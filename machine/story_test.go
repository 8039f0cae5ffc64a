package machine_test

import (
	"fmt"
	"reflect"
	"slices"
	"strconv"
	"strings"
	"testing"

	"countermand/api"
	"countermand/code"
	"countermand/machine"
	"countermand/script"
	"countermand/task"
)

// ops are the names of chapter 16's table, by their Ops.
var ops = strings.Fields("Halt Set Move Add Zero Less Yield Spawn Now Sleep WithCancel WithTimeout WithValue WithoutCancel Cancel Err Cause Value Await After StopAfter " +
	"Lock TryLock LockCtx Unlock RLock WLock RWUnlock Wait WaitCtx Signal Broadcast OnceBegin OnceEnd GroupAdd GroupWait Acquire TryAcquire Release Go TryGo SetLimit TeamWait Do Finish Forget Fail")

// kinds are the events' words, by their Kinds.
var kinds = strings.Fields("- began ended failed parked woken done rang clock")

// number reads a number.
func number(s string) int64 {
	n, err := strconv.ParseInt(s, 10, 64)
	if err != nil {
		panic(err)
	}
	return n
}

// program reads a program: instructions parted by ";", each its name, and what it asks for (chapter 16), from A on.
func program(s string) []code.Instr {
	var l []code.Instr
	for _, line := range strings.Split(s, ";") {
		f := strings.Fields(line)
		x := code.Instr{Op: slices.Index(ops, f[0])}
		rest := f[1:]
		for i, c := range code.Form(x.Op) {
			if c == '0' {
				continue
			}
			n := number(rest[0])
			rest = rest[1:]
			switch i {
			case 0:
				x.A = int(n)
			case 1:
				x.B = int(n)
			case 2:
				x.N = n
			}
		}
		if len(rest) > 0 {
			panic(line)
		}
		l = append(l, x)
	}
	return l
}

func programs(l ...string) [][]code.Instr {
	var out [][]code.Instr
	for _, s := range l {
		out = append(out, program(s))
	}
	return out
}

// item reads an item: b, p or c, and its number.
func item(s string) script.Item {
	n := number(s[1:])
	switch s[0] {
	case 'b':
		return script.Item{Do: script.Begin, A: int(n)}
	case 'p':
		return script.Item{Do: script.Pick, A: int(n)}
	}
	return script.Item{Do: script.Clock, N: n}
}

// tell tells events as words, parted by ",".
func tell(l []machine.Event) string {
	var out []string
	for _, x := range l {
		word := strconv.Itoa(x.Kind)
		if x.Kind > 0 && x.Kind < len(kinds) {
			word = kinds[x.Kind]
		}
		out = append(out, fmt.Sprintf("%s %d %d %d", word, x.Task, x.A, x.N))
	}
	return strings.Join(out, ", ")
}

// seen is what a shot has by a name: now, next, begun, ctxs; of a context err, cause; of an object holder, writer, readers, once, count, held, active, first (and the number behind it); or of a task (its number ahead, and a dot) state, prog, at, team, err, its wait's kind, obj, ctx, reg, lock, n, or a register's number.
func seen(s machine.Shot, name string) int64 {
	if t, what, is := strings.Cut(name, "."); is {
		return ofTask(s.Tasks[number(t)], what)
	}
	what := strings.TrimRight(name, "0123456789")
	n := int64(0)
	if what != name {
		n = number(name[len(what):])
	}
	switch what {
	case "now":
		return s.Now
	case "next":
		return s.Next
	case "begun":
		return int64(s.Begun)
	case "ctxs":
		return int64(len(s.Errs))
	case "err":
		return int64(s.Errs[n])
	case "cause":
		return s.Causes[n]
	case "holder":
		return int64(s.Holders[n])
	case "writer":
		return int64(s.Writers[n])
	case "readers":
		return int64(s.Readers[n])
	case "once":
		return int64(s.States[n])
	case "count":
		return s.Counts[n]
	case "held":
		return s.Held[n]
	case "active":
		return int64(s.Active[n])
	case "first":
		return s.Firsts[n]
	}
	panic(name)
}

func ofTask(x task.Task, what string) int64 {
	switch what {
	case "state":
		return int64(x.State)
	case "prog":
		return int64(x.Prog)
	case "at":
		return int64(x.At)
	case "team":
		return int64(x.Team)
	case "err":
		return x.Err
	case "kind":
		return int64(x.Wait.Kind)
	case "obj":
		return int64(x.Wait.Obj)
	case "ctx":
		return int64(x.Wait.Ctx)
	case "reg":
		return int64(x.Wait.Reg)
	case "lock":
		return int64(x.Wait.Lock)
	case "n":
		return x.Wait.N
	}
	return x.Regs[number(what)]
}

// both are a machine, one that is its twin, and the world that both should be.
type both struct {
	m, twin *machine.Machine
	w       *world
	progs   [][]code.Instr
	items   []script.Item
}

func start(t testing.TB, rooms [api.MostObjs]int64, progs [][]code.Instr) *both {
	t.Helper()
	s := script.Script{Rooms: rooms, Programs: progs}
	b := &both{w: newWorld(s), progs: progs}
	var e, e1 api.Errno
	b.m, e = machine.New(s)
	b.twin, e1 = machine.New(s)
	if b.m == nil || b.twin == nil || e != api.OK || e1 != api.OK {
		t.Fatalf("New = %v, %d; %v, %d", b.m, e, b.twin, e1)
	}
	b.look(t)
	return b
}

// step lets an item happen to all of them, holds what they tell against each other, and tells the events.
func (b *both) step(t testing.TB, x script.Item) []machine.Event {
	t.Helper()
	b.items = append(b.items, x)
	ahead := b.m.Shot()
	got := b.m.Step(x)
	if want := b.w.step(x); !slices.Equal(got, want) {
		t.Fatalf("items %v: the last one tells %s, want %s", b.items, tell(got), tell(want))
	}
	// R4: who does the same tells the same.
	if l := b.twin.Step(x); !slices.Equal(got, l) {
		t.Fatalf("items %v: a twin's last one tells %s, want %s", b.items, tell(l), tell(got))
	}
	told := slices.Clone(got)
	// R3: what was told may be changed by whoever got it.
	for i := range got {
		got[i] = machine.Event{Kind: -1, Task: -77, A: 77, N: 777}
	}
	_ = append(got, machine.Event{Kind: 5})
	b.look(t)
	b.follows(t, x, ahead, told)
	return told
}

// look holds the machines' shots against the world's.
func (b *both) look(t testing.TB) {
	t.Helper()
	want := b.w.shot()
	for _, m := range []*machine.Machine{b.m, b.twin, b.m} {
		s := m.Shot()
		if d := differ(s, want); d != "" {
			t.Fatalf("items %v: %s", b.items, d)
		}
		for i := range s.Tasks {
			s.Tasks[i] = task.Task{State: 9, Regs: [api.MostRegs]int64{9, 9, 9, 9, 9, 9}}
		}
		for i := range s.Errs {
			s.Errs[i], s.Causes[i] = 99, 99
		}
	}
}

// differ tells wherein a shot is another one.
func differ(got, want machine.Shot) string {
	if same(got, want) { // most are: reflect is slow
		return ""
	}
	g, w := reflect.ValueOf(got), reflect.ValueOf(want)
	for i := range g.NumField() {
		f, h := g.Field(i), w.Field(i)
		if f.Kind() == reflect.Slice && f.Len() == 0 && h.Len() == 0 { // R6
			continue
		}
		if !reflect.DeepEqual(f.Interface(), h.Interface()) {
			return fmt.Sprintf("Shot's %s: %+v, want %+v", g.Type().Field(i).Name, f.Interface(), h.Interface())
		}
	}
	return ""
}

// same tells whether shots are the same.
func same(a, b machine.Shot) bool {
	return a.Now == b.Now && a.Next == b.Next && a.Begun == b.Begun && slices.Equal(a.Tasks, b.Tasks) && slices.Equal(a.Errs, b.Errs) && slices.Equal(a.Causes, b.Causes) &&
		a.Holders == b.Holders && a.Writers == b.Writers && a.Readers == b.Readers && a.States == b.States && a.Counts == b.Counts && a.Held == b.Held && a.Active == b.Active && a.Firsts == b.Firsts
}

// follows holds an item against P19.3: what fails changes nothing but the place, and nobody is parked under a context that is done.
func (b *both) follows(t testing.TB, x script.Item, ahead machine.Shot, told []machine.Event) {
	t.Helper()
	now := b.m.Shot()
	for n, y := range now.Tasks {
		if y.State == task.Parked && y.Wait.Ctx >= 0 && now.Errs[y.Wait.Ctx] != api.OK {
			t.Fatalf("items %v: the task %d is parked under the context %d, that is done", b.items, n, y.Wait.Ctx)
		}
	}
	if len(told) != 1 || told[0].Kind != machine.Failed || x.Do == script.Pick && told[0].Task != x.A {
		return
	}
	if x.Do == script.Pick && script.Right(x) && x.A < len(ahead.Tasks) && ahead.Tasks[x.A].State == task.Ready {
		ahead.Tasks[x.A].At++
	}
	if d := differ(now, ahead); d != "" {
		t.Fatalf("items %v: the last one failed, but there is: %s", b.items, d)
	}
}

// story is what a machine should tell: in each line items, parted by blanks, a colon, and the events of all of them, parted by commas; or "is", and what its shot should have then.
type story struct {
	name     string
	rooms    [api.MostObjs]int64
	programs []string
	lines    string
}

func (s story) run(t *testing.T) {
	t.Helper()
	t.Run(s.name, func(t *testing.T) {
		b := start(t, s.rooms, programs(s.programs...))
		for _, line := range strings.Split(strings.TrimSpace(s.lines), "\n") {
			line = strings.TrimSpace(line)
			if facts, is := strings.CutPrefix(line, "is "); is {
				b.are(t, strings.Fields(facts))
				continue
			}
			do, want, is := strings.Cut(line, ":")
			if !is {
				t.Fatalf("no line of a story: %s", line)
			}
			var got []machine.Event
			for _, x := range strings.Fields(do) {
				got = append(got, b.step(t, item(x))...)
			}
			if tell(got) != strings.TrimSpace(want) {
				t.Errorf("%s: %s, want %s", do, tell(got), want)
			}
		}
	})
}

// are holds what the machine's shot has against facts.
func (b *both) are(t *testing.T, facts []string) {
	t.Helper()
	s := b.m.Shot()
	for _, fact := range facts {
		name, want, _ := strings.Cut(fact, "=")
		if got := seen(s, name); got != number(want) {
			t.Errorf("behind %v: %s is %d, want %s", b.items, name, got, want)
		}
	}
}
