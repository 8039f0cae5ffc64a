package machine_test

import (
	"fmt"
	"math"
	"math/rand"
	"testing"

	"countermand/api"
	"countermand/code"
	"countermand/machine"
	"countermand/script"
)

// weights are how often each Op is drawn: of all kinds, of contexts and what is waited for under them, of what comes after and teams, of rows, and of numbers.
var weights = [][]int{
	drawn(2, nil),
	drawn(0, map[int]int{code.Set: 8, code.WithCancel: 6, code.WithTimeout: 6, code.WithoutCancel: 2, code.Cancel: 6, code.Await: 6, code.LockCtx: 12, code.Lock: 3, code.Unlock: 8, code.WaitCtx: 12, code.Wait: 3, code.Signal: 4, code.Broadcast: 3, code.Acquire: 14, code.Release: 5, code.Zero: 4, code.Less: 3, code.After: 3, code.Sleep: 2}),
	drawn(0, map[int]int{code.Set: 6, code.WithCancel: 4, code.WithTimeout: 3, code.Cancel: 5, code.After: 8, code.StopAfter: 4, code.Go: 14, code.TryGo: 5, code.SetLimit: 6, code.TeamWait: 8, code.Fail: 6, code.Halt: 3, code.Spawn: 2, code.Zero: 3}),
	drawn(0, map[int]int{code.Set: 6, code.Lock: 6, code.Unlock: 6, code.RLock: 6, code.WLock: 5, code.RWUnlock: 9, code.OnceBegin: 5, code.OnceEnd: 4, code.GroupAdd: 6, code.GroupWait: 6, code.Do: 8, code.Finish: 6, code.Forget: 3, code.Zero: 6, code.Less: 5, code.Sleep: 3}),
	drawn(0, map[int]int{code.Set: 8, code.WithCancel: 4, code.WithTimeout: 4, code.WithValue: 8, code.WithoutCancel: 4, code.Value: 4, code.Err: 2, code.Cause: 2, code.GroupAdd: 8, code.GroupWait: 1, code.TryAcquire: 8, code.Release: 3, code.Move: 2, code.Zero: 6}),
}

func drawn(all int, some map[int]int) []int {
	l := make([]int, code.Fail+1)
	for op := range l {
		l[op] = all + some[op]
	}
	return l
}

// numbers are what instructions are given, beside small ones.
var numbers = []int64{math.MinInt64, math.MinInt64 + 1, math.MaxInt64, math.MaxInt64 - 1, 1 << 32, -1 << 32, 1<<32 + 1, 1<<53 + 1, 15, 16, 17, 23, 24, 25, 40}

func some(r *rand.Rand) int64 {
	if r.Intn(12) == 0 {
		return numbers[r.Intn(len(numbers))]
	}
	return int64(r.Intn(8) - 1)
}

// drawOp draws an Op by its weight.
func drawOp(r *rand.Rand, weight []int) int {
	all := 0
	for _, n := range weight {
		all += n
	}
	k := r.Intn(all)
	for op, n := range weight {
		if k -= n; k < 0 {
			return op
		}
	}
	return 0
}

// drawInstr draws an instruction that may be, in a program of so many.
func drawInstr(r *rand.Rand, weight []int, long, objects, registers int) code.Instr {
	x := code.Instr{Op: drawOp(r, weight)}
	var l [3]int64
	for i, c := range code.Form(x.Op) {
		switch c {
		case 'r':
			l[i] = int64(r.Intn(registers))
		case 'o':
			l[i] = int64(r.Intn(objects))
		case 'p':
			l[i] = int64(r.Intn(5))
		case 'j':
			l[i] = int64(r.Intn(long + 1))
		case 'n':
			l[i] = some(r)
		}
	}
	x.A, x.B, x.N = int(l[0]), int(l[1]), l[2]
	return x
}

func drawPrograms(r *rand.Rand, weight []int) [][]code.Instr {
	l := make([][]code.Instr, 1+r.Intn(5))
	objects, registers := 1+r.Intn(api.MostObjs), 2+r.Intn(api.MostRegs-1)
	for i := range l {
		long := 2 + r.Intn(api.MostCode-1)
		for range long {
			l[i] = append(l[i], drawInstr(r, weight, long, objects, registers))
		}
	}
	return l
}

func drawItem(r *rand.Rand, begun, progs int) script.Item {
	switch n := r.Intn(40); {
	case n == 0:
		return script.Item{Do: r.Intn(5) - 1, A: r.Intn(20) - 1, N: some(r)}
	case n < 3 || begun == 0:
		return script.Item{Do: script.Begin, A: r.Intn(progs)}
	case n < 6:
		return script.Item{Do: script.Clock, N: int64(r.Intn(4))}
	case n == 6:
		return script.Item{Do: script.Pick, A: r.Intn(api.MostTasks)}
	case n == 7 && r.Intn(20) == 0:
		return script.Item{Do: script.Clock, N: some(r)}
	}
	return script.Item{Do: script.Pick, A: r.Intn(begun)}
}

// way is how an instruction, or an item, went.
type way struct {
	op  int // -1: an item that isn't an instruction
	how string
}

// wayOf tells how the instruction that a task did went: it failed, by which error; it was parked; or it was done.
func wayOf(t int, told []machine.Event) string {
	if len(told) == 1 && told[0].Kind == machine.Failed && told[0].Task == t {
		return fmt.Sprint("failed ", told[0].N)
	}
	for _, x := range told {
		if x.Kind == machine.Parked && x.Task == t {
			return "parked"
		}
	}
	return "done"
}

// follow lets random items happen, and counts how what was done went.
func followItems(t *testing.T, r *rand.Rand, count map[way]int) {
	t.Helper()
	progs := drawPrograms(r, weights[r.Intn(len(weights))])
	rooms := [api.MostObjs]int64{int64(r.Intn(8)), 5, 0, math.MaxInt64}
	b := start(t, rooms, progs)
	for range 120 {
		begun := len(b.w.tasks)
		x := drawItem(r, begun, len(progs))
		op := -1
		if x.Do == script.Pick && x.A >= 0 && x.A < begun && x.N == 0 {
			if y := b.w.tasks[x.A]; y.State == 1 && y.At < len(progs[y.Prog]) {
				op = progs[y.Prog][y.At].Op
			}
		}
		count[way{op, wayOf(x.A, b.step(t, x))}]++
	}
}

// ways are how each Op may go, beside being done: "p" parked, and the errors.
var ways = map[int]string{
	code.Spawn: "23", code.Sleep: "p", code.WithCancel: "23", code.WithTimeout: "23", code.WithValue: "23", code.WithoutCancel: "23", code.Cancel: "3",
	code.Err: "3", code.Cause: "3", code.Value: "3", code.Await: "p3", code.After: "23", code.Lock: "p", code.LockCtx: "p3", code.Unlock: "4", code.RLock: "p4", code.WLock: "p4", code.RWUnlock: "4",
	code.Wait: "p4", code.WaitCtx: "p34", code.OnceBegin: "p4", code.OnceEnd: "4", code.GroupAdd: "12", code.GroupWait: "p", code.Acquire: "p13", code.TryAcquire: "1", code.Release: "14",
	code.Go: "p23", code.TryGo: "23", code.SetLimit: "5", code.TeamWait: "p", code.Do: "p4", code.Finish: "4",
}

// P19.1, P19.2, P19.3: long random ways, on which each instruction goes in each way in which it may, and in no other.
func TestRandomWays(t *testing.T) {
	count := map[way]int{}
	for seed := range 2500 {
		followItems(t, rand.New(rand.NewSource(int64(seed))), count)
	}
	for op, name := range ops {
		may := map[string]bool{"done": op != code.Wait}
		for _, c := range ways[op] {
			how := "parked"
			if c != 'p' {
				how = "failed " + string(c)
			}
			may[how] = true
		}
		for how, is := range may {
			if is != (count[way{op, how}] > 0) {
				t.Errorf("%s was %s %d times", name, how, count[way{op, how}])
			}
		}
		for w, n := range count {
			if w.op == op && !may[w.how] {
				t.Errorf("%s was %s %d times", name, w.how, n)
			}
		}
	}
}
