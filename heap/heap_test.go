package heap_test

import (
	"cmp"
	"fmt"
	"math"
	"math/rand"
	"slices"
	"strings"
	"testing"
	"unsafe"

	"concourse/heap"
)

// model is a heap by the chapter's words: a plain list of entries, sorted whenever a row is asked for.
type model []heap.Entry

func (m *model) drop(key string) bool {
	was := len(*m)
	*m = slices.DeleteFunc(*m, func(e heap.Entry) bool { return e.Key == key })
	return len(*m) < was
}

func (m *model) put(at int, key string) {
	m.drop(key)
	*m = append(*m, heap.Entry{At: at, Key: key})
}

func (m *model) at(key string) (int, bool) {
	for _, e := range *m {
		if e.Key == key {
			return e.At, true
		}
	}
	return 0, false
}

func (m *model) all() []heap.Entry {
	return slices.SortedFunc(slices.Values(*m), func(a, b heap.Entry) int {
		return cmp.Or(cmp.Compare(a.At, b.At), slices.Compare([]byte(a.Key), []byte(b.Key)))
	})
}

func (m *model) due(t int) []string {
	var keys []string
	for _, e := range m.all() {
		if e.At <= t {
			keys = append(keys, e.Key)
			m.drop(e.Key)
		}
	}
	return keys
}

// step is one call that changes a heap.
type step struct {
	does byte // p: Put, d: Drop, u: Due, c: Clear
	at   int
	key  string
}

func (s step) String() string { return fmt.Sprintf("%c %d %q", s.does, s.at, s.key) }

func put(at int, key string) step { return step{'p', at, key} }
func drop(key string) step        { return step{does: 'd', key: key} }
func due(t int) step              { return step{does: 'u', at: t} }
func clearAll() step              { return step{does: 'c'} }

// take takes a step of a heap and of its model, and tells whether both answer the same.
func (s step) take(h *heap.Heap, m *model) bool {
	switch s.does {
	case 'p':
		h.Put(s.at, s.key)
		m.put(s.at, s.key)
		return true
	case 'd':
		return h.Drop(s.key) == m.drop(s.key)
	case 'u':
		return slices.Equal(h.Due(s.at), m.due(s.at))
	}
	h.Clear()
	*m = nil
	return true
}

// wrong tells what a heap answers otherwise than its model does, asked of all that changes nothing.
func wrong(h *heap.Heap, m *model, keys []string) string {
	want := m.all()
	if got := h.All(); !slices.Equal(got, want) {
		return fmt.Sprintf("All is %#v, want %#v", got, want)
	}
	if got := h.Len(); got != len(want) {
		return fmt.Sprintf("Len is %d, want %d", got, len(want))
	}
	var first heap.Entry
	if len(want) > 0 {
		first = want[0]
	}
	if got, is := h.First(); got != first || is != (len(want) > 0) {
		return fmt.Sprintf("First is %#v, %v, want %#v", got, is, first)
	}
	for _, key := range keys {
		at, is := h.At(key)
		if wantAt, wantIs := m.at(key); at != wantAt || is != wantIs {
			return fmt.Sprintf("At(%q) is %d, %v, want %d, %v", key, at, is, wantAt, wantIs)
		}
	}
	return ""
}

// follow takes the steps of a new heap and of its model, and holds all that both tell behind each against the other.
func follow(t *testing.T, steps ...step) {
	t.Helper()
	keys := []string{"", "?"}
	for _, s := range steps {
		keys = append(keys, s.key)
	}
	h, m := heap.New(), &model{}
	for i, s := range steps {
		if !s.take(h, m) {
			t.Fatalf("%v: step %d (%v) answers otherwise", steps, i, s)
		}
		if is := wrong(h, m, keys); is != "" {
			t.Fatalf("%v: behind step %d (%v): %s", steps, i, s, is)
		}
	}
}

// of is a heap of entries, put in that row.
func of(entries ...heap.Entry) *heap.Heap {
	h := heap.New()
	for _, e := range entries {
		h.Put(e.At, e.Key)
	}
	return h
}

// some is a heap of seven entries, and these in their row.
func some() (*heap.Heap, []heap.Entry) {
	row := []heap.Entry{{-2, "g"}, {0, ""}, {3, "a"}, {3, "b"}, {5, "f"}, {8, "c"}, {9, "e"}}
	h := heap.New()
	for _, i := range []int{4, 1, 6, 0, 3, 5, 2} {
		h.Put(row[i].At, row[i].Key)
	}
	return h, row
}

// checkIs: the heap has just these entries, which stand in their row.
func checkIs(t *testing.T, h *heap.Heap, row []heap.Entry) {
	t.Helper()
	m := model(slices.Clone(row))
	keys := []string{"", "?"}
	for _, e := range row {
		keys = append(keys, e.Key)
	}
	if is := wrong(h, &m, keys); is != "" {
		t.Error(is)
	}
	if got := h.All(); !slices.Equal(got, row) {
		t.Errorf("All is %#v, want %#v", got, row)
	}
}

func checkDue(t *testing.T, h *heap.Heap, at int, want ...string) {
	t.Helper()
	if got := h.Due(at); !slices.Equal(got, want) {
		t.Errorf("Due(%d) is %q, want %q", at, got, want)
	}
}

// ticks are such as edges are made of, rising.
func ticks() []int {
	return []int{math.MinInt, math.MinInt + 1, -1 << 40, math.MinInt32, -7, -1, 0, 1, 7, math.MaxInt32, 1 << 32, 1 << 40, math.MaxInt - 1, math.MaxInt}
}

// texts are keys, rising byte by byte: by no length, no letter's case and no rune.
func texts() []string {
	return []string{"", "\x00", "\x00\x00", "\x01", " ", "10", "9", "@a:s", "B", "a", "a\x00", "aa", "aaa", "ab", "b", "ba", "\x7f", "\x80", "\u00e9", "\uffff", "\U00010000", "\xff", "\xff\x00", "\xff\xff"}
}

// eachRow tells all rows of 0 to n-1.
func eachRow(n int, tell func(row []int)) {
	row := make([]int, n)
	for i := range row {
		row[i] = i
	}
	var turn func(from int)
	turn = func(from int) {
		if from == n {
			tell(row)
			return
		}
		for i := from; i < n; i++ {
			row[from], row[i] = row[i], row[from]
			turn(from + 1)
			row[from], row[i] = row[i], row[from]
		}
	}
	turn(0)
}

// P6.1

func TestExample(t *testing.T) {
	h := of(heap.Entry{5, "b"}, heap.Entry{3, "a"}, heap.Entry{5, "a"})
	checkDue(t, h, 5, "a", "b")
	checkIs(t, h, nil)
}

func TestWithoutEntries(t *testing.T) {
	for what, h := range map[string]*heap.Heap{
		"new": heap.New(), "cleared": func() *heap.Heap { h, _ := some(); h.Clear(); return h }(),
		"due": func() *heap.Heap { h, _ := some(); h.Due(9); return h }(), "dropped": func() *heap.Heap { h := of(heap.Entry{1, "a"}); h.Drop("a"); return h }(),
	} {
		if e, is := h.First(); e != (heap.Entry{}) || is {
			t.Errorf("%s: First is %v, %v", what, e, is)
		}
		for _, key := range []string{"", "a", "g", "?"} {
			if at, is := h.At(key); at != 0 || is {
				t.Errorf("%s: At(%q) is %d, %v", what, key, at, is)
			}
			if h.Drop(key) {
				t.Errorf("%s: Drop(%q) is true", what, key)
			}
		}
		for _, at := range ticks() {
			if l := h.Due(at); len(l) != 0 {
				t.Errorf("%s: Due(%d) is %q", what, at, l)
			}
		}
		h.Clear()
		if len(h.All()) != 0 || h.Len() != 0 {
			t.Errorf("%s: %v, %d", what, h.All(), h.Len())
		}
		h.Put(4, "x")
		checkIs(t, h, []heap.Entry{{4, "x"}})
	}
}

func TestOneEntry(t *testing.T) {
	for _, at := range ticks() {
		for _, key := range texts() {
			row := []heap.Entry{{at, key}}
			h := of(row...)
			checkIs(t, h, row)
			if h.Drop(key + "?") {
				t.Errorf("Drop(%q) is true", key+"?")
			}
			checkIs(t, h, row)
			if !h.Drop(key) || h.Drop(key) {
				t.Errorf("Drop(%q) is not true, then false", key)
			}
			checkIs(t, h, nil)
		}
	}
}

// TestPutAgain: at the same tick, a lesser and a greater one, past none, some and all of the others.
func TestPutAgain(t *testing.T) {
	_, row := some()
	for _, e := range row {
		for _, at := range append(ticks(), e.At-1, e.At, e.At+1, -3, -2, 2, 3, 4, 5, 8, 9, 10) {
			h, _ := some()
			h.Put(at, e.Key)
			m := model(slices.Clone(row))
			m.put(at, e.Key)
			checkIs(t, h, m.all())
			h.Put(e.At, e.Key)
			checkIs(t, h, row)
		}
	}
}

// TestPutAgainBehindItWasGone: a key comes back, at whatever tick, as if it had never been there.
func TestPutAgainBehindItWasGone(t *testing.T) {
	for name, gone := range map[string]step{"dropped": drop("b"), "due": due(5), "cleared": clearAll()} {
		for _, at := range []int{4, 5, 6, math.MinInt, math.MaxInt} {
			t.Run(fmt.Sprint(name, at), func(t *testing.T) {
				follow(t, put(5, "b"), gone, put(at, "b"), gone, put(at, "b"), put(5, "b"), gone)
				follow(t, put(4, "a"), put(5, "b"), put(6, "c"), gone, put(at, "b"), drop("a"), drop("c"), due(at), due(at), put(at, "b"))
			})
		}
	}
}

func TestDropOfEachOfMany(t *testing.T) {
	_, row := some()
	for i, e := range row {
		h, _ := some()
		if !h.Drop(e.Key) {
			t.Errorf("Drop(%q) is false", e.Key)
		}
		left := slices.Delete(slices.Clone(row), i, i+1)
		checkIs(t, h, left)
		if at, is := h.At(e.Key); at != 0 || is || h.Drop(e.Key) {
			t.Errorf("%q is there still, at %d, %v", e.Key, at, is)
		}
		checkIs(t, h, left)
	}
}

func TestAWrongKeyChangesNothing(t *testing.T) {
	h, row := some()
	for _, key := range []string{"?", "A", "aa", "a\x00", " ", "\x00", "ab", "h", strings.Repeat("a", 1000)} {
		if at, is := h.At(key); at != 0 || is || h.Drop(key) {
			t.Errorf("%q is there, at %d, %v", key, at, is)
		}
	}
	checkIs(t, h, row)
}

// TestAtOfTick0: a tick of 0 is told with true.
func TestAtOfTick0(t *testing.T) {
	h := of(heap.Entry{0, "a"})
	if at, is := h.At("a"); at != 0 || !is {
		t.Errorf("%d, %v", at, is)
	}
	if e, is := h.First(); e != (heap.Entry{0, "a"}) || !is {
		t.Errorf("%v, %v", e, is)
	}
	h = of(heap.Entry{})
	if e, is := h.First(); e != (heap.Entry{}) || !is {
		t.Errorf("%v, %v", e, is)
	}
	checkDue(t, h, 0, "")
}

func TestHeapsAreApart(t *testing.T) {
	a, row := some()
	b, _ := some()
	c := heap.New()
	b.Put(-9, "a")
	b.Drop("g")
	b.Due(3)
	c.Put(1, "a")
	checkIs(t, a, row)
	b.Clear()
	checkIs(t, a, row)
	checkIs(t, c, []heap.Entry{{1, "a"}})
	a.Clear()
	checkIs(t, c, []heap.Entry{{1, "a"}})
}

// P6.2

func TestTextsOfOneTickAreInTheirRow(t *testing.T) {
	want := texts()
	if !slices.IsSortedFunc(want, func(a, b string) int { return slices.Compare([]byte(a), []byte(b)) }) {
		t.Fatal("the texts do not rise")
	}
	random := rand.New(rand.NewSource(1))
	for range 200 {
		h := heap.New()
		for _, i := range random.Perm(len(want)) {
			h.Put(7, want[i])
		}
		var row []heap.Entry
		for _, key := range want {
			row = append(row, heap.Entry{7, key})
		}
		checkIs(t, h, row)
		checkDue(t, h, 6)
		checkDue(t, h, 7, want...)
		checkIs(t, h, nil)
	}
}

func TestTicksAreInTheirRow(t *testing.T) {
	all := ticks()
	random := rand.New(rand.NewSource(2))
	for range 200 {
		h := heap.New()
		for _, i := range random.Perm(len(all)) {
			h.Put(all[i], fmt.Sprint("k", len(all)-i)) // the keys' row is another one
		}
		for i, at := range all {
			if e, is := h.First(); e.At != at || !is {
				t.Fatalf("First is %v, %v, want the tick %d", e, is, at)
			}
			checkDue(t, h, at, fmt.Sprint("k", len(all)-i))
			checkDue(t, h, at)
		}
		checkIs(t, h, nil)
	}
}

// TestDueOfEachTick: one below all, each that is an entry's, each between, one above all.
func TestDueOfEachTick(t *testing.T) {
	_, row := some()
	for _, at := range append(ticks(), -4, -3, -2, 2, 3, 4, 5, 6, 8, 9, 10) {
		h, _ := some()
		n := 0
		var want []string
		for n < len(row) && row[n].At <= at {
			want = append(want, row[n].Key)
			n++
		}
		checkDue(t, h, at, want...)
		checkIs(t, h, row[n:])
		for _, key := range want {
			if at, is := h.At(key); at != 0 || is || h.Drop(key) {
				t.Errorf("%q is there still, at %d, %v", key, at, is)
			}
		}
	}
}

func TestDueAtTheEndsOfTicks(t *testing.T) {
	least, greatest := heap.Entry{math.MinInt, "l"}, heap.Entry{math.MaxInt, "g"}
	h := of(greatest, least)
	checkIs(t, h, []heap.Entry{least, greatest})
	checkDue(t, h, math.MinInt, "l")
	checkDue(t, h, math.MaxInt-1)
	checkIs(t, h, []heap.Entry{greatest})
	checkDue(t, h, math.MaxInt, "g")
	h = of(greatest, least)
	checkDue(t, h, math.MaxInt, "l", "g")
	h = of(greatest, least, heap.Entry{math.MaxInt, "l"}, heap.Entry{math.MinInt, "g"})
	checkIs(t, h, []heap.Entry{{math.MinInt, "g"}, {math.MaxInt, "l"}})
}

func TestClear(t *testing.T) {
	h, row := some()
	h.Clear()
	checkIs(t, h, nil)
	for _, e := range row {
		if at, is := h.At(e.Key); at != 0 || is || h.Drop(e.Key) {
			t.Errorf("%q is there still, at %d, %v", e.Key, at, is)
		}
	}
	checkDue(t, h, math.MaxInt)
	h.Clear()
	checkIs(t, h, nil)
	for _, e := range slices.Backward(row) {
		h.Put(e.At, e.Key)
	}
	checkIs(t, h, row)
	h.Clear()
	h.Put(1, "b")
	checkIs(t, h, []heap.Entry{{1, "b"}})
}

// TestAskedAgain: being asked changes nothing.
func TestAskedAgain(t *testing.T) {
	h, row := some()
	for range 3 {
		checkIs(t, h, row)
	}
	checkDue(t, h, 3, "g", "", "a", "b")
	for range 3 {
		checkIs(t, h, row[4:])
	}
}

// TestEveryRowOfPuts: seven entries in every row that they may be put in; one is dropped, and the rest is due.
func TestEveryRowOfPuts(t *testing.T) {
	_, all := some()
	eachRow(len(all), func(row []int) {
		h := heap.New()
		for _, i := range row {
			h.Put(all[i].At, all[i].Key)
		}
		m := model(all)
		if is := wrong(h, &m, nil); is != "" {
			t.Fatalf("%v: %s", row, is)
		}
		gone := row[3]
		h.Drop(all[gone].Key)
		var want []string
		for i, e := range all {
			if i != gone {
				want = append(want, e.Key)
			}
		}
		if got := h.Due(9); !slices.Equal(got, want) || h.Len() != 0 {
			t.Fatalf("%v: Due is %q, want %q", row, got, want)
		}
	})
}

// TestEveryRowOfSteps: each row of five steps, of three keys and a few ticks.
func TestEveryRowOfSteps(t *testing.T) {
	steps := []step{put(1, ""), put(3, ""), put(2, "a"), put(1, "a"), put(2, "b"), put(0, "b"), drop(""), drop("a"), due(1), due(2), clearAll()}
	n := len(steps)
	for row := range n * n * n * n * n {
		follow(t, steps[row%n], steps[row/n%n], steps[row/n/n%n], steps[row/n/n/n%n], steps[row/n/n/n/n])
	}
}

// anyStep is a step of so many keys and ticks; Put most often, so that there are many entries.
func anyStep(random *rand.Rand, keys, ticks int) step {
	at, key := random.Intn(ticks)-ticks/4, fmt.Sprint(random.Intn(keys))
	switch n := random.Intn(100); {
	case n < 70:
		return put(at, key)
	case n < 92:
		return drop(key)
	case n < 99:
		return due(at - ticks/2)
	}
	return clearAll()
}

func TestLongRowsOfSteps(t *testing.T) {
	random := rand.New(rand.NewSource(6))
	for _, x := range []struct{ rows, steps, keys, ticks int }{
		{300, 100, 5, 4}, {100, 200, 20, 8}, {40, 300, 60, 1000}, {10, 600, 200, 30}, {10, 600, 1000, 1 << 40},
	} {
		for range x.rows {
			var steps []step
			for range x.steps {
				steps = append(steps, anyStep(random, x.keys, x.ticks))
			}
			follow(t, steps...)
		}
	}
}

// TestManyEntries: many are put, put again and dropped, and the rest is due in its row.
func TestManyEntries(t *testing.T) {
	random := rand.New(rand.NewSource(7))
	h, left := heap.New(), map[string]int{}
	for range 60000 {
		key, at := fmt.Sprint(random.Intn(20000)), random.Intn(5000)
		if random.Intn(4) > 0 {
			h.Put(at, key)
			left[key] = at
			continue
		}
		_, was := left[key]
		if h.Drop(key) != was {
			t.Fatalf("Drop(%q) is not %v", key, was)
		}
		delete(left, key)
	}
	m := model{}
	for key, at := range left {
		m = append(m, heap.Entry{At: at, Key: key})
	}
	row := m.all()
	if got := h.All(); !slices.Equal(got, row) || h.Len() != len(row) {
		t.Fatal("All is not the entries that are left, in their row")
	}
	for at := 0; at <= 5000; at += 50 {
		for _, key := range h.Due(at) {
			if row[0].Key != key || row[0].At > at {
				t.Fatalf("Due(%d) tells %q, want %v", at, key, row[0])
			}
			row = row[1:]
		}
		if len(row) > 0 && row[0].At <= at {
			t.Fatalf("Due(%d) tells nothing of %v", at, row[0])
		}
	}
	if len(row) != 0 || h.Len() != 0 {
		t.Errorf("%d are not told, %d are left", len(row), h.Len())
	}
}

// P6.3

// TestDueIsToldOnce: time goes on, keys are put at later ticks between, and each is told once for each time that it was put.
func TestDueIsToldOnce(t *testing.T) {
	random := rand.New(rand.NewSource(63))
	for range 50 {
		h, asked, told, waits := heap.New(), map[string]int{}, map[string]int{}, map[string]int{}
		for now := range 200 {
			for range random.Intn(4) {
				key := fmt.Sprint(random.Intn(30))
				if _, is := waits[key]; !is {
					asked[key]++
				}
				waits[key] = now + random.Intn(40) - 3
				h.Put(waits[key], key)
			}
			var last heap.Entry
			for i, key := range h.Due(now) {
				at, is := waits[key]
				if !is || at > now {
					t.Fatalf("at %d: %q is told, which is at %d, %v", now, key, at, is)
				}
				if i > 0 && (at < last.At || at == last.At && key <= last.Key) {
					t.Fatalf("at %d: %q of %d is told behind %v", now, key, at, last)
				}
				last = heap.Entry{At: at, Key: key}
				told[key]++
				delete(waits, key)
			}
			if l := h.Due(now); len(l) != 0 {
				t.Fatalf("at %d: %q are told again", now, l)
			}
		}
		for _, key := range h.Due(math.MaxInt) {
			told[key]++
		}
		for key, n := range asked {
			if told[key] != n {
				t.Errorf("%q was put %d times, and told %d times", key, n, told[key])
			}
		}
	}
}

// TestDueInStepsIsDueAtOnce: however often it is asked between, the same keys are told in the same row.
func TestDueInStepsIsDueAtOnce(t *testing.T) {
	random := rand.New(rand.NewSource(64))
	for range 200 {
		atOnce, inSteps := heap.New(), heap.New()
		for range 40 {
			at, key := random.Intn(30), fmt.Sprint(random.Intn(60))
			atOnce.Put(at, key)
			inSteps.Put(at, key)
		}
		byAt, byAll := map[int][]string{}, atOnce.All()
		for _, e := range byAll {
			byAt[e.At] = append(byAt[e.At], e.Key)
		}
		var row []string
		for at := range 30 {
			l := inSteps.Due(at)
			if !slices.Equal(l, byAt[at]) {
				t.Fatalf("Due(%d) is %q, want %q", at, l, byAt[at])
			}
			row = append(row, l...)
		}
		checkDue(t, atOnce, 29, row...)
		if len(row) != len(byAll) {
			t.Errorf("%d are told of %d", len(row), len(byAll))
		}
	}
}

// TestFirstIsDueFirst: to take the first one away, one by one, is to go through All.
func TestFirstIsDueFirst(t *testing.T) {
	h, row := some()
	for _, e := range row {
		first, is := h.First()
		if first != e || !is {
			t.Fatalf("First is %#v, %v, want %#v", first, is, e)
		}
		h.Drop(first.Key)
	}
	checkIs(t, h, nil)
}

// What is told is whoever asked's own (R4).

func TestWhatIsToldMayBeChanged(t *testing.T) {
	h, row := some()
	all := h.All()
	for i := range all {
		all[i] = heap.Entry{At: -100, Key: "x"}
	}
	_ = append(all[:0], heap.Entry{At: -200, Key: "y"})
	checkIs(t, h, row)

	_ = append(h.All(), heap.Entry{At: -300, Key: "z"}) // into its spare room, if it has any
	checkIs(t, h, row)

	keys := h.Due(3)
	for i := range keys {
		keys[i] = "x"
	}
	_ = append(keys, "y", "z")
	checkIs(t, h, row[4:])
	checkDue(t, h, 9, "f", "c", "e")
}

// TestWhatWasToldStays: calls that come behind do not change it.
func TestWhatWasToldStays(t *testing.T) {
	h, row := some()
	all := h.All()
	first, _ := h.First()
	keys := h.Due(3)
	rest := h.All()
	for i := range 20 {
		h.Put(-i, fmt.Sprint(i))
	}
	again := h.Due(-10)
	h.Clear()
	h.Put(1, "x")
	if !slices.Equal(all, row) || first != row[0] || !slices.Equal(keys, []string{"g", "", "a", "b"}) || !slices.Equal(rest, row[4:]) {
		t.Errorf("%v, %v, %q, %v", all, first, keys, rest)
	}
	if want := []string{"19", "18", "17", "16", "15", "14", "13", "12", "11", "10"}; !slices.Equal(again, want) {
		t.Errorf("%q", again)
	}
}

// TestKeysAreNewMemory: neither a key that was handed in, nor one that was told before, is told.
func TestKeysAreNewMemory(t *testing.T) {
	key := strings.Repeat("k", 20)
	h := of(heap.Entry{1, key}, heap.Entry{2, key})
	first, _ := h.First()
	firstAgain, _ := h.First()
	told := []string{key, first.Key, firstAgain.Key, h.All()[0].Key, h.All()[0].Key, h.Due(2)[0]}
	for i, a := range told {
		for _, b := range told[:i] {
			if a != b || unsafe.StringData(a) == unsafe.StringData(b) {
				t.Errorf("%q and %q (%d) are not the same in other memory", a, b, i)
			}
		}
	}
}
