package timer_test

import (
	"math"
	"math/rand"
	"slices"
	"testing"

	"countermand/api"
	"countermand/timer"
)

const (
	forever  int64 = api.Forever
	earliest int64 = -1 << 63
)

type alarm = timer.Alarm

// model is a clock as plainly as the document says it: its alarms stand in the order in which they were set.
type model struct {
	most     int
	now, set int64
	list     []alarm
}

func (m *model) clone() *model { return &model{m.most, m.now, m.set, slices.Clone(m.list)} }

func (m *model) find(key int) int {
	return slices.IndexFunc(m.list, func(x alarm) bool { return x.Key == key })
}

func (m *model) stop(key int) bool {
	i := m.find(key)
	if i < 0 {
		return false
	}
	m.list = slices.Delete(m.list, i, i+1)
	return true
}

func (m *model) reset(key int, at int64) api.Errno {
	if key < 0 || key >= m.most {
		return api.ErrName
	}
	m.stop(key)
	m.set++
	m.list = append(m.list, alarm{key, at, m.set})
	return api.OK
}

func (m *model) put(key int, at int64) api.Errno {
	if m.find(key) >= 0 {
		return api.ErrBusy
	}
	return m.reset(key, at)
}

// later is sat's sum written out anew: a clock's time is never below 0.
func (m *model) later(d int64) int64 {
	switch {
	case d < 0:
		return m.now
	case d > forever-m.now:
		return forever
	}
	return m.now + d
}

// alarms are those that were set, by their times: of one time they keep the order in which they were set.
func (m *model) alarms() []alarm {
	l := slices.Clone(m.list)
	for i := range l {
		for ; i > 0 && l[i].At < l[i-1].At; i-- {
			l[i], l[i-1] = l[i-1], l[i]
		}
	}
	return l
}

func (m *model) to(at int64) []alarm {
	if at > m.now {
		m.now = at
	}
	var off []alarm
	for _, x := range m.alarms() {
		if x.At <= m.now {
			off = append(off, x)
			m.stop(x.Key)
		}
	}
	return off
}

// outside are keys of which there is none, where there are so many.
func outside(many int) []int {
	return []int{-1, many, -2, many + 1, 1000, 1001, 1000 + many, 1 << 16, 1 << 32, -1 << 16, math.MinInt, math.MaxInt}
}

func made(t *testing.T, most int) (*timer.Clock, *model) {
	t.Helper()
	c, e := timer.New(most)
	if c == nil || e != api.OK {
		t.Fatalf("New(%d) = %v, %d", most, c, e)
	}
	return c, &model{most: most}
}

func wantSet(t *testing.T, c *timer.Clock, key int, at int64, want api.Errno) {
	t.Helper()
	if e := c.Set(key, at); e != want {
		t.Errorf("Set(%d, %d): error %d, want %d", key, at, e, want)
	}
}

func wantAfter(t *testing.T, c *timer.Clock, key int, d int64, want api.Errno) {
	t.Helper()
	if e := c.After(key, d); e != want {
		t.Errorf("After(%d, %d): error %d, want %d", key, d, e, want)
	}
}

func wantReset(t *testing.T, c *timer.Clock, key int, at int64, want api.Errno) {
	t.Helper()
	if e := c.Reset(key, at); e != want {
		t.Errorf("Reset(%d, %d): error %d, want %d", key, at, e, want)
	}
}

func wantStop(t *testing.T, c *timer.Clock, key int, want bool) {
	t.Helper()
	if is := c.Stop(key); is != want {
		t.Errorf("Stop(%d) = %t, want %t", key, is, want)
	}
}

func wantGet(t *testing.T, c *timer.Clock, key int, want alarm, is bool) {
	t.Helper()
	if x, ok := c.Get(key); x != want || ok != is {
		t.Errorf("Get(%d) = %v, %t, want %v, %t", key, x, ok, want, is)
	}
}

func wantTo(t *testing.T, c *timer.Clock, at int64, want ...alarm) {
	t.Helper()
	if l := c.To(at); !slices.Equal(l, want) {
		t.Errorf("To(%d) = %v, want %v", at, l, want)
	}
}

func wantBy(t *testing.T, c *timer.Clock, d int64, want ...alarm) {
	t.Helper()
	if l := c.By(d); !slices.Equal(l, want) {
		t.Errorf("By(%d) = %v, want %v", d, l, want)
	}
}

// tells holds a clock's time and its alarms against those that are written out in their order.
func tells(t *testing.T, c *timer.Clock, most int, now int64, want ...alarm) {
	t.Helper()
	if n := c.Now(); n != now {
		t.Errorf("Now() = %d, want %d", n, now)
	}
	if l := c.Alarms(); !slices.Equal(l, want) {
		t.Errorf("Alarms() = %v, want %v", l, want)
	}
	next := forever
	if len(want) > 0 {
		next = want[0].At
	}
	if n := c.Next(); n != next {
		t.Errorf("Next() = %d, want %d", n, next)
	}
	has := make([]bool, most)
	for _, x := range want {
		has[x.Key] = true
		wantGet(t, c, x.Key, x, true)
	}
	for key, is := range has {
		if !is {
			wantGet(t, c, key, alarm{}, false)
		}
	}
	for _, key := range outside(most) {
		wantGet(t, c, key, alarm{}, false)
	}
}

func same(t *testing.T, c *timer.Clock, m *model) {
	t.Helper()
	tells(t, c, m.most, m.now, m.alarms()...)
}

// step does one thing with a clock and with its model; what they answer must be the same.
func step(t *testing.T, c *timer.Clock, m *model, what, key int, at int64) {
	t.Helper()
	switch what {
	case 0:
		wantSet(t, c, key, at, m.put(key, at))
	case 1:
		wantAfter(t, c, key, at, m.put(key, m.later(at)))
	case 2:
		wantReset(t, c, key, at, m.reset(key, at))
	case 3:
		wantStop(t, c, key, m.stop(key))
	case 4:
		wantTo(t, c, at, m.to(at)...)
	case 5:
		wantBy(t, c, at, m.to(m.later(at))...)
	}
}

// steps are as many as step knows.
const steps = 6

// P4.1, P4.2
func TestNew(t *testing.T) {
	for _, most := range []int{1, 2, 30, 999, 1000} {
		c, _ := made(t, most)
		tells(t, c, most, 0)
		wantSet(t, c, most, 3, api.ErrName)
		wantSet(t, c, most-1, 3, api.OK)
		tells(t, c, most, 0, alarm{most - 1, 3, 1})
	}
}

// P4.1
func TestNewOfWrongSizes(t *testing.T) {
	for _, most := range []int{0, -1, 1001, 1002, -1000, 1 << 16, 1<<16 + 1, 1<<32 + 1, math.MinInt, math.MaxInt} {
		if c, e := timer.New(most); c != nil || e != api.ErrArg {
			t.Errorf("New(%d) = %v, %d, want nil, %d", most, c, e, api.ErrArg)
		}
	}
}

// P4.1: two clocks have nothing in common, be it time, alarms or numbers.
func TestClocksAreApart(t *testing.T) {
	a, _ := made(t, 3)
	b, _ := made(t, 3)
	wantSet(t, a, 1, 8, api.OK)
	wantSet(t, a, 2, 9, api.OK)
	wantTo(t, a, 5)
	tells(t, b, 3, 0)
	wantAfter(t, b, 1, 1, api.OK)
	wantTo(t, b, 30, alarm{1, 1, 1})
	tells(t, a, 3, 5, alarm{1, 8, 1}, alarm{2, 9, 2})
}

// P4.1: whatever the time is, it is kept as it was told, be it far behind the clock's.
func TestSet(t *testing.T) {
	c, _ := made(t, 6)
	wantTo(t, c, 7)
	for key, at := range []int64{9, 7, 3, earliest, forever, -1} {
		wantSet(t, c, key, at, api.OK)
		wantGet(t, c, key, alarm{key, at, int64(key) + 1}, true)
	}
	tells(t, c, 6, 7, alarm{3, earliest, 4}, alarm{5, -1, 6}, alarm{2, 3, 3},
		alarm{1, 7, 2}, alarm{0, 9, 1}, alarm{4, forever, 5})
}

// P4.1: what is refused changes nothing and uses up no number, be the clock without alarms, full or between.
func TestRefused(t *testing.T) {
	for many := range 5 {
		c, m := made(t, 4)
		for key := range many {
			wantSet(t, c, key, int64(9-key), m.put(key, int64(9-key)))
		}
		for _, at := range []int64{earliest, -1, 0, 1, 9, forever} {
			for key := range many {
				wantSet(t, c, key, at, api.ErrBusy)
				wantAfter(t, c, key, at, api.ErrBusy)
				same(t, c, m)
			}
			for _, key := range outside(4) {
				wantSet(t, c, key, at, api.ErrName)
				wantAfter(t, c, key, at, api.ErrName)
				wantReset(t, c, key, at, api.ErrName)
				wantStop(t, c, key, false)
			}
			same(t, c, m)
		}
		wantReset(t, c, 3, 2, m.reset(3, 2))
		same(t, c, m)
	}
}

// P4.1: After counts from the clock's time, of less than nothing too, and never beyond the last time.
func TestAfter(t *testing.T) {
	for _, x := range []struct{ now, d, at int64 }{
		{0, 0, 0}, {0, 5, 5}, {0, -1, 0}, {0, earliest, 0}, {0, forever, forever}, {0, forever - 1, forever - 1},
		{7, 0, 7}, {7, 1, 8}, {7, 5, 12}, {7, -1, 7}, {7, -7, 7}, {7, -8, 7}, {7, earliest, 7},
		{7, forever - 8, forever - 1}, {7, forever - 7, forever}, {7, forever - 6, forever}, {7, forever, forever},
		{forever - 1, 0, forever - 1}, {forever - 1, 1, forever}, {forever - 1, 2, forever}, {forever - 1, -1, forever - 1},
		{forever, 0, forever}, {forever, 1, forever}, {forever, forever, forever}, {forever, -1, forever}, {forever, earliest, forever},
	} {
		c, _ := made(t, 2)
		wantTo(t, c, x.now)
		wantAfter(t, c, 1, x.d, api.OK)
		tells(t, c, 2, x.now, alarm{1, x.at, 1})
		wantAfter(t, c, 1, x.d, api.ErrBusy)
		wantAfter(t, c, 2, x.d, api.ErrName)
		wantAfter(t, c, -1, x.d, api.ErrName)
		tells(t, c, 2, x.now, alarm{1, x.at, 1})
	}
}

// P4.1: of a key that has an alarm and of one that has none; it is a new one, though its time be the same.
func TestReset(t *testing.T) {
	for _, at := range []int64{earliest, -1, 0, 3, 4, 5, 6, 7, forever} {
		c, _ := made(t, 4)
		wantTo(t, c, 4)
		wantReset(t, c, 1, 5, api.OK)
		wantReset(t, c, 2, 5, api.OK)
		tells(t, c, 4, 4, alarm{1, 5, 1}, alarm{2, 5, 2})
		wantReset(t, c, 1, at, api.OK)
		want := []alarm{{2, 5, 2}, {1, at, 3}}
		if at < 5 {
			want = []alarm{{1, at, 3}, {2, 5, 2}}
		}
		tells(t, c, 4, 4, want...)
		wantSet(t, c, 1, 6, api.ErrBusy)
		tells(t, c, 4, 4, want...)
	}
}

// P4.1
func TestStop(t *testing.T) {
	c, _ := made(t, 3)
	for key := range 3 {
		wantStop(t, c, key, false)
	}
	tells(t, c, 3, 0)
	wantSet(t, c, 0, 5, api.OK)
	wantSet(t, c, 1, -5, api.OK)
	wantSet(t, c, 2, 5, api.OK)
	wantStop(t, c, 0, true)
	tells(t, c, 3, 0, alarm{1, -5, 2}, alarm{2, 5, 3})
	wantStop(t, c, 0, false)
	tells(t, c, 3, 0, alarm{1, -5, 2}, alarm{2, 5, 3})
	wantStop(t, c, 1, true)
	wantSet(t, c, 0, 5, api.OK)
	tells(t, c, 3, 0, alarm{2, 5, 3}, alarm{0, 5, 4})
	wantTo(t, c, 5, alarm{2, 5, 3}, alarm{0, 5, 4})
	for key := range 3 {
		wantStop(t, c, key, false)
	}
	tells(t, c, 3, 5)
}

// P4.1: numbers count on over what was stopped, was set anew or has gone off, and over nothing else.
func TestNumbers(t *testing.T) {
	c, _ := made(t, 3)
	wantStop(t, c, 1, false)
	wantReset(t, c, 3, 1, api.ErrName)
	wantSet(t, c, 1, 5, api.OK)
	wantSet(t, c, 1, 6, api.ErrBusy)
	wantAfter(t, c, 1, 6, api.ErrBusy)
	wantSet(t, c, 3, 6, api.ErrName)
	wantAfter(t, c, -1, 6, api.ErrName)
	wantSet(t, c, 2, 5, api.OK)
	tells(t, c, 3, 0, alarm{1, 5, 1}, alarm{2, 5, 2})
	wantStop(t, c, 2, true)
	wantAfter(t, c, 2, 5, api.OK)
	tells(t, c, 3, 0, alarm{1, 5, 1}, alarm{2, 5, 3})
	wantReset(t, c, 1, 5, api.OK)
	tells(t, c, 3, 0, alarm{2, 5, 3}, alarm{1, 5, 4})
	wantTo(t, c, 9, alarm{2, 5, 3}, alarm{1, 5, 4})
	wantTo(t, c, 9)
	wantBy(t, c, 1)
	wantAfter(t, c, 1, 0, api.OK)
	tells(t, c, 3, 10, alarm{1, 10, 5})
	wantReset(t, c, 0, 0, api.OK)
	tells(t, c, 3, 10, alarm{0, 0, 6}, alarm{1, 10, 5})
}

// P4.2: by their times, of one time by their numbers, not by their keys.
func TestAlarms(t *testing.T) {
	c, _ := made(t, 6)
	for _, key := range []int{4, 2, 5, 0, 3, 1} {
		wantSet(t, c, key, int64(key%3), api.OK)
	}
	tells(t, c, 6, 0, alarm{0, 0, 4}, alarm{3, 0, 5}, alarm{4, 1, 1}, alarm{1, 1, 6}, alarm{2, 2, 2}, alarm{5, 2, 3})
	wantReset(t, c, 4, 1, api.OK)
	wantReset(t, c, 0, 2, api.OK)
	tells(t, c, 6, 0, alarm{3, 0, 5}, alarm{1, 1, 6}, alarm{4, 1, 7}, alarm{2, 2, 2}, alarm{5, 2, 3}, alarm{0, 2, 8})
}

// P4.2: the next one's time is told whether it has passed, is the last one of all, or there is none.
func TestNext(t *testing.T) {
	c, _ := made(t, 3)
	want := func(at int64) {
		t.Helper()
		if n := c.Next(); n != at {
			t.Errorf("Next() = %d, want %d", n, at)
		}
	}
	want(forever)
	wantSet(t, c, 0, forever, api.OK)
	want(forever)
	wantSet(t, c, 1, 8, api.OK)
	want(8)
	wantTo(t, c, 7)
	want(8)
	wantSet(t, c, 2, -3, api.OK)
	want(-3)
	wantReset(t, c, 2, earliest, api.OK)
	want(earliest)
	wantStop(t, c, 2, true)
	want(8)
	wantTo(t, c, 8, alarm{1, 8, 2})
	want(forever)
	wantTo(t, c, forever, alarm{0, forever, 1})
	want(forever)
}

// P4.2, P4.3: lists that were told are the asker's own.
func TestListsAreNew(t *testing.T) {
	c, _ := made(t, 4)
	want := []alarm{{2, 5, 2}, {1, 5, 3}, {0, 9, 1}}
	wantSet(t, c, 0, 9, api.OK)
	wantSet(t, c, 2, 5, api.OK)
	wantSet(t, c, 1, 5, api.OK)
	l := c.Alarms()
	for i := range l {
		l[i] = alarm{3, 3, 3}
	}
	_ = append(l[:1], alarm{}, alarm{})
	_ = append(l, alarm{})
	tells(t, c, 4, 0, want...)
	all, off := c.Alarms(), c.To(5)
	for key := range 4 {
		wantReset(t, c, key, 1, api.OK)
	}
	wantTo(t, c, 5, alarm{0, 1, 4}, alarm{1, 1, 5}, alarm{2, 1, 6}, alarm{3, 1, 7})
	if !slices.Equal(all, want) || !slices.Equal(off, want[:2]) {
		t.Errorf("lists that were told earlier are %v and %v now", all, off)
	}
}

// P4.3: to a time before the clock's, at it and behind it.
func TestTo(t *testing.T) {
	for _, x := range []struct {
		at, now int64
		off     int
	}{
		{earliest, 5, 3}, {-1, 5, 3}, {0, 5, 3}, {4, 5, 3}, {5, 5, 3}, {6, 6, 4}, {7, 7, 5}, {8, 8, 5},
		{forever - 1, forever - 1, 5}, {forever, forever, 6},
	} {
		c, _ := made(t, 6)
		wantTo(t, c, 5)
		l := []alarm{{4, earliest, 5}, {2, 4, 2}, {5, 5, 1}, {1, 6, 3}, {3, 7, 4}, {0, forever, 6}}
		for _, key := range []int{5, 2, 1, 3, 4, 0} {
			i := slices.IndexFunc(l, func(x alarm) bool { return x.Key == key })
			wantSet(t, c, key, l[i].At, api.OK)
		}
		wantTo(t, c, x.at, l[:x.off]...)
		tells(t, c, 6, x.now, l[x.off:]...)
		wantTo(t, c, x.at)
		tells(t, c, 6, x.now, l[x.off:]...)
	}
}

// P4.3: a clock never goes back, whatever goes off.
func TestToNeverGoesBack(t *testing.T) {
	c, _ := made(t, 1)
	for _, at := range []int64{-1, earliest, 0, 3, 2, 0, -1, earliest, 3, 4, forever, 4, 0, -1, earliest, forever} {
		was := c.Now()
		wantReset(t, c, 0, earliest, api.OK)
		if l := c.To(at); len(l) != 1 {
			t.Errorf("To(%d) = %v", at, l)
		}
		tells(t, c, 1, max(was, at))
	}
}

// P4.3: by less than nothing, by nothing, and by so much that no time is left.
func TestBy(t *testing.T) {
	for _, x := range []struct{ from, d, now int64 }{
		{0, earliest, 0}, {0, -1, 0}, {0, 0, 0}, {0, 1, 1}, {0, forever, forever},
		{5, earliest, 5}, {5, -5, 5}, {5, -1, 5}, {5, 0, 5}, {5, 1, 6}, {5, 2, 7},
		{5, forever - 6, forever - 1}, {5, forever - 5, forever}, {5, forever - 4, forever}, {5, forever, forever},
		{forever, earliest, forever}, {forever, -1, forever}, {forever, 0, forever}, {forever, 1, forever}, {forever, forever, forever},
	} {
		c, m := made(t, 5)
		wantTo(t, c, x.from, m.to(x.from)...)
		for key, at := range []int64{x.now, x.from, forever, -2, 6} {
			wantSet(t, c, key, at, m.put(key, at))
		}
		off := m.to(x.now)
		if len(off) < 3 {
			t.Fatalf("of %v just %v go off", x, off)
		}
		wantBy(t, c, x.d, off...)
		same(t, c, m)
	}
}

// P4.3, P4.4: what was stopped or set anew before its time comes doesn't go off then, and each goes off once.
func TestGoesOffOnce(t *testing.T) {
	c, _ := made(t, 5)
	for key := range 5 {
		wantSet(t, c, key, 10, api.OK)
	}
	wantTo(t, c, 9)
	wantStop(t, c, 1, true)
	wantReset(t, c, 2, 12, api.OK)
	wantReset(t, c, 0, 10, api.OK)
	wantStop(t, c, 3, true)
	wantAfter(t, c, 3, 2, api.OK)
	wantBy(t, c, 1, alarm{4, 10, 5}, alarm{0, 10, 7})
	tells(t, c, 5, 10, alarm{3, 11, 8}, alarm{2, 12, 6})
	wantTo(t, c, 11, alarm{3, 11, 8})
	wantReset(t, c, 2, 3, api.OK)
	wantReset(t, c, 4, forever, api.OK)
	wantTo(t, c, 10, alarm{2, 3, 9})
	tells(t, c, 5, 11, alarm{4, forever, 10})
	wantTo(t, c, forever-1)
	wantBy(t, c, 1, alarm{4, forever, 10})
	wantBy(t, c, forever)
	tells(t, c, 5, forever)
}

// The example of the document.
func TestExample(t *testing.T) {
	c, _ := made(t, 3)
	wantAfter(t, c, 0, 9, api.OK)
	wantAfter(t, c, 2, 5, api.OK)
	wantAfter(t, c, 1, 5, api.OK)
	wantBy(t, c, 5, alarm{2, 5, 2}, alarm{1, 5, 3})
	tells(t, c, 3, 5, alarm{0, 9, 1})
}

// P4.1 to P4.3: one key, of all that may be done with it.
func TestOneKey(t *testing.T) {
	c, m := made(t, 1)
	for what := range steps * steps * steps {
		for _, what := range []int{what % steps, what / steps % steps, what / steps / steps} {
			step(t, c, m, what, 0, int64(what))
			same(t, c, m)
		}
	}
}

// P4.1 to P4.4: the greatest size, every key with an alarm, gone through bit by bit.
func TestGreatest(t *testing.T) {
	c, m := made(t, 1000)
	for i := range 1000 {
		key, at := i*7%1000, int64(i*37%50-5)
		wantSet(t, c, key, at, m.put(key, at))
	}
	same(t, c, m)
	wantSet(t, c, 1000, 1, api.ErrName)
	wantAfter(t, c, 999, 1, api.ErrBusy)
	for key := 0; key < 1000; key += 3 {
		wantReset(t, c, key, int64(key%60), m.reset(key, int64(key%60)))
	}
	for key := 0; key < 1000; key += 4 {
		wantStop(t, c, key, m.stop(key))
	}
	same(t, c, m)
	for range 61 {
		wantBy(t, c, 1, m.to(m.now+1)...)
		same(t, c, m)
	}
	tells(t, c, 1000, 61)
}

// P4.1 to P4.3: whatever is done with a small clock, from whatever its alarms are, be it right or wrong.
func TestEveryStepOfSmallClocks(t *testing.T) {
	for were := range 6 * 6 * 6 {
		from := func() (*timer.Clock, *model) {
			c, m := made(t, 3)
			step(t, c, m, 4, 0, 2)
			for rest, i := were, 0; i < 3; rest, i = rest/6, i+1 {
				if at := int64(rest % 6); at < 5 {
					step(t, c, m, 0, (i+were)%3, at)
				}
			}
			return c, m
		}
		for what := range steps {
			for key := -1; key <= 3; key++ {
				for at := int64(-1); at <= 5; at++ {
					c, m := from()
					step(t, c, m, what, key, at)
					same(t, c, m)
					step(t, c, m, 2, 1, 3)
					same(t, c, m)
					if t.Failed() {
						t.Fatalf("%d, then %d of %d, %d", were, what, key, at)
					}
				}
			}
		}
	}
}

// someTime is a small time mostly, and one of the ends now and then.
func someTime(r *rand.Rand, times int64) int64 {
	if r.Intn(40) == 0 {
		return []int64{earliest, forever - 1, forever}[r.Intn(3)]
	}
	return r.Int63n(times) - times/4
}

// P4.1 to P4.4: long ways, on which a clock and its model answer the same.
func TestLongWays(t *testing.T) {
	for seed := range int64(60) {
		r := rand.New(rand.NewSource(seed))
		c, m := made(t, 1+r.Intn(60))
		times := 1 + r.Int63n(200)
		for range 500 {
			what := []int{0, 0, 0, 1, 1, 2, 2, 3, 4, 5}[r.Intn(10)]
			key, at := r.Intn(m.most+2)-1, someTime(r, times)
			if what > 3 {
				at = r.Int63n(times/20+2) - 1
				if what == 4 {
					at += m.now
				}
			}
			step(t, c, m, what, key, at)
			same(t, c, m)
			if t.Failed() {
				t.Fatalf("seed %d: %d of %d, %d", seed, what, key, at)
			}
		}
		for _, at := range []int64{forever - 1, forever} {
			step(t, c, m, 4, 0, at)
			same(t, c, m)
		}
	}
}

// twins are two clocks of which just the same was asked.
func twins(t *testing.T, seed int64) (a, b *timer.Clock) {
	var l [2]*timer.Clock
	for i := range l {
		r := rand.New(rand.NewSource(seed))
		c, m := made(t, 1+r.Intn(40))
		for range 80 {
			step(t, c, m, []int{0, 0, 1, 2, 3, 5}[r.Intn(6)], r.Intn(m.most), r.Int63n(12)-2)
		}
		l[i] = c
	}
	return l[0], l[1]
}

// P4.4: who goes in two steps hears the same, in the same order, as who goes at once.
func TestInTwoSteps(t *testing.T) {
	for seed := range int64(30) {
		for first := int64(-1); first < 12; first++ {
			for second := int64(-1); second < 12; second++ {
				a, b := twins(t, seed)
				l := append(a.By(first), a.By(second)...)
				if once := b.By(max(first, 0) + max(second, 0)); !slices.Equal(l, once) {
					t.Fatalf("seed %d: by %d and %d: %v, at once %v", seed, first, second, l, once)
				}
				if a.Now() != b.Now() || !slices.Equal(a.Alarms(), b.Alarms()) {
					t.Fatalf("seed %d: by %d and %d: %v, at once %v", seed, first, second, a.Alarms(), b.Alarms())
				}
			}
		}
	}
}

// P4.4, and R4: none goes off ahead of its time, and the same calls answer the same.
func TestNotAheadOfTime(t *testing.T) {
	for seed := range int64(30) {
		a, b := twins(t, seed)
		was := a.Now()
		for at := was; at <= was+20; at++ {
			l := a.To(at)
			if again := b.To(at); !slices.Equal(l, again) {
				t.Fatalf("seed %d: To(%d) = %v, of the same calls %v", seed, at, l, again)
			}
			for _, x := range l {
				if x.At > at || at > was && x.At < at {
					t.Fatalf("seed %d: %v goes off at %d", seed, x, at)
				}
			}
		}
		if l := a.Alarms(); len(l) > 0 {
			t.Fatalf("seed %d: %v are left", seed, l)
		}
	}
}
