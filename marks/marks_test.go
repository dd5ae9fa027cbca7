package marks_test

import (
	"fmt"
	"math"
	"math/rand"
	"slices"
	"strings"
	"testing"
	"unsafe"

	"concourse/api"
	"concourse/edu"
	"concourse/marks"
	"concourse/receipt"
	"concourse/view"
)

// event is a message that one makes in a room, behind its Parents, which are sorted here.
func event(room, id, thread string, parents ...string) api.Event {
	return api.Event{ID: id, Room: room, User: "@a:s", Thread: thread, Parents: slices.Sorted(slices.Values(parents))}
}

// graph is events of two rooms, each behind its Parents and its Thread: the second room has some of the first one's IDs at other depths, and of other threads.
func graph() []api.Event {
	return []api.Event{
		event("!r:s", "$a", ""),
		event("!r:s", "$t", "", "$a"),
		event("!r:s", "$b", "", "$a"),
		event("!r:s", "$u", "$t", "$t"),
		event("!r:s", "$x", "$b", "$b"),
		event("!r:s", "$c", "", "$b", "$t"),
		event("!r:s", "$w", "$t", "$c", "$u"),
		event("!r:s", "$d", "", "$w"),
		event("!q:s", "$b", ""),
		event("!q:s", "$u", "", "$b"),
		event("!q:s", "$t", "$b", "$u"),
		event("!q:s", "$e", "", "$t"),
	}
}

// notice is a receipt of an event of !r:s.
func notice(user, id, thread string) api.Edu {
	return api.Edu{Kind: api.Receipt, Room: "!r:s", User: user, Event: id, Thread: thread}
}

// stamped is a receipt with another Tick and Stamp.
func stamped(e api.Edu, tick, stamp int) api.Edu {
	e.Tick, e.Stamp = tick, stamp
	return e
}

func private(e api.Edu) api.Edu {
	e.Private = true
	return e
}

func in(room string, e api.Edu) api.Edu {
	e.Room = room
	return e
}

func key(room, user, thread string) receipt.Key {
	return receipt.Key{Room: room, User: user, Thread: thread}
}

func hidden(k receipt.Key) receipt.Key {
	k.Private = true
	return k
}

// bytesRow is how texts stand byte by byte: -1, 0 or 1.
func bytesRow(a, b string) int { return slices.Compare([]byte(a), []byte(b)) }

// isAhead tells whether a position is ahead of another one, by chapter 7's words.
func isAhead(a, b api.Position) bool {
	if a.Depth != b.Depth {
		return a.Depth < b.Depth
	}
	return bytesRow(a.ID, b.ID) < 0
}

// keyRow is how keys stand, by chapter 11's words.
func keyRow(a, b receipt.Key) int {
	for _, texts := range [][2]string{{a.Room, b.Room}, {a.User, b.User}, {a.Thread, b.Thread}} {
		if row := bytesRow(texts[0], texts[1]); row != 0 {
			return row
		}
	}
	switch {
	case !a.Private && b.Private:
		return -1
	case a.Private && !b.Private:
		return 1
	}
	return 0
}

// model is marks by the chapters' words, and the events that the view knows: plain lists, gone through by hand whenever something is asked.
type model struct {
	most   int
	events []api.Event
	marks  []receipt.Mark
	edus   []api.Edu
	lost   int
}

func (m *model) event(room, id string) (api.Event, bool) {
	for _, e := range m.events {
		if e.Room == room && e.ID == id {
			return e, true
		}
	}
	return api.Event{}, false
}

func (m *model) depth(e api.Event) int {
	depth := 0
	for _, id := range e.Parents {
		parent, _ := m.event(e.Room, id)
		depth = max(depth, m.depth(parent)+1)
	}
	return depth
}

// putMark puts a key's mark, and tells whether it has gone on.
func (m *model) putMark(k receipt.Key, at api.Position) bool {
	for i, mark := range m.marks {
		if mark.Key == k {
			if isAhead(mark.At, at) {
				m.marks[i].At = at
				return true
			}
			return false
		}
	}
	m.marks = append(m.marks, receipt.Mark{Key: k, At: at})
	return true
}

func (m *model) park(e api.Edu) {
	if slices.Contains(m.edus, e) {
		return
	}
	m.edus = append(slices.Clone(m.edus), e)
	if len(m.edus) > m.most {
		m.edus = m.edus[1:]
		m.lost++
	}
}

// isOf tells whether an event is of a thread.
func isOf(e api.Event, thread string) bool {
	return thread == "" || thread == "main" && e.Thread == "" || thread == e.ID || thread == e.Thread
}

func keyOf(e api.Edu) receipt.Key {
	return receipt.Key{Room: e.Room, User: e.User, Thread: e.Thread, Private: e.Private}
}

func (m *model) put(e api.Edu) (bool, api.Errno) {
	if e.Kind != 1 || !edu.Local(e) {
		return false, api.ErrArg
	}
	of, is := m.event(e.Room, e.Event)
	if !is {
		m.park(e)
		return false, api.OK
	}
	if !isOf(of, e.Thread) {
		return false, api.ErrThread
	}
	return m.putMark(keyOf(e), api.Position{Depth: m.depth(of), ID: of.ID}), api.OK
}

func (m *model) arrive(room, id string) []receipt.Key {
	if _, is := m.event(room, id); !is {
		return nil
	}
	var left []api.Edu
	var those []api.Edu
	for _, e := range m.edus {
		if e.Room == room && e.Event == id {
			those = append(those, e)
		} else {
			left = append(left, e)
		}
	}
	m.edus = left
	var keys []receipt.Key
	for _, e := range those {
		if on, _ := m.put(e); on && !slices.Contains(keys, keyOf(e)) {
			keys = append(keys, keyOf(e))
		}
	}
	return keys
}

// all is the marks in their row.
func (m *model) all() []receipt.Mark {
	return slices.SortedFunc(slices.Values(m.marks), func(a, b receipt.Mark) int { return keyRow(a.Key, b.Key) })
}

func (m *model) public() []receipt.Mark {
	var public []receipt.Mark
	for _, mark := range m.all() {
		if !mark.Private {
			public = append(public, mark)
		}
	}
	return public
}

// parts tells where two rows part first.
func parts[T comparable](got, want []T) string {
	for i := range min(len(got), len(want)) {
		if got[i] != want[i] {
			return fmt.Sprintf("%d of %d is %+v, want %+v", i, len(got), got[i], want[i])
		}
	}
	if len(got) != len(want) {
		return fmt.Sprintf("%d, want %d: %+v", len(got), len(want), got)
	}
	return ""
}

// wrong tells what marks answer otherwise than their model does, asked of all that changes nothing.
func wrong(m *marks.Marks, want *model) string {
	all := want.all()
	if fault := parts(m.All(), all); fault != "" {
		return "All: " + fault
	}
	if fault := parts(m.Public(), want.public()); fault != "" {
		return "Public: " + fault
	}
	if fault := parts(m.Waits(), want.edus); fault != "" {
		return "Waits: " + fault
	}
	if got := m.Lost(); got != want.lost {
		return fmt.Sprintf("Lost is %d, want %d", got, want.lost)
	}
	has := map[receipt.Key]api.Position{}
	for _, mark := range all {
		has[mark.Key] = mark.At
	}
	for _, mark := range all {
		for _, k := range []receipt.Key{mark.Key, {Room: mark.Room, User: mark.User, Thread: mark.Thread, Private: !mark.Private}, key(mark.Room, mark.User, "$none")} {
			at, wantIs := has[k]
			if got, is := m.Get(k); got != at || is != wantIs {
				return fmt.Sprintf("Get(%+v) is %+v, %v, want %+v, %v", k, got, is, at, wantIs)
			}
		}
	}
	return ""
}

// pair is marks, the view that they are told by, and their model.
type pair struct {
	v    *view.View
	m    *marks.Marks
	want model
}

// pairOf is one without marks, whose view knows these events.
func pairOf(most int, events ...api.Event) *pair {
	m, errno := marks.New(most)
	if errno != api.OK {
		panic(errno)
	}
	p := &pair{v: view.New(), m: m, want: model{most: most}}
	for _, e := range events {
		if fault := comes(e).do(p); fault != "" {
			panic("the test's own view: " + fault)
		}
	}
	return p
}

// step is one call: an event comes to the view, or a receipt is put, or an event's parked ones are.
type step struct {
	call string
	of   api.Event
	e    api.Edu
}

func comes(e api.Event) step       { return step{call: "comes", of: e} }
func put(e api.Edu) step           { return step{call: "put", e: e} }
func arrives(room, id string) step { return step{call: "arrives", of: event(room, id, "")} }
func (s step) String() string      { return fmt.Sprintf("%s %+v %+v", s.call, s.of, s.e) }
func (p *pair) wrong() string      { return wrong(p.m, &p.want) }
func (p *pair) knows(e api.Event)  { p.want.events = append(p.want.events, e) }
func (p *pair) isKnown(e api.Event) bool {
	_, is := p.want.event(e.Room, e.ID)
	return is
}

// do takes a step of both, and tells what they answer otherwise, then or behind it.
func (s step) do(p *pair) string {
	switch s.call {
	case "comes":
		if errno := p.v.Add(s.of); errno != api.OK {
			return "the test's own view: " + errno.Error()
		}
		p.knows(s.of)
	case "put":
		want, wantErrno := p.want.put(s.e)
		if on, errno := p.m.Put(p.v, s.e); on != want || errno != wantErrno {
			return fmt.Sprintf("Put is %v, %v, want %v, %v", on, errno, want, wantErrno)
		}
	default:
		if fault := parts(p.m.Arrive(p.v, s.of.Room, s.of.ID), p.want.arrive(s.of.Room, s.of.ID)); fault != "" {
			return "Arrive: " + fault
		}
	}
	return p.wrong()
}

// follow takes the steps, one behind the other.
func (p *pair) follow(t testing.TB, steps ...step) {
	t.Helper()
	for i, s := range steps {
		if fault := s.do(p); fault != "" {
			t.Fatalf("bound %d: step %d of %v: %s", p.want.most, i, steps, fault)
		}
	}
}

// puts is so many steps, in which these are put.
func puts(edus ...api.Edu) []step {
	var steps []step
	for _, e := range edus {
		steps = append(steps, put(e))
	}
	return steps
}

func checkPut(t testing.TB, p *pair, e api.Edu, want bool, wantErrno api.Errno) {
	t.Helper()
	if on, errno := p.m.Put(p.v, e); on != want || errno != wantErrno {
		t.Fatalf("Put(%+v) is %v, %v, want %v, %v", e, on, errno, want, wantErrno)
	}
}

func checkArrive(t testing.TB, p *pair, room, id string, want ...receipt.Key) {
	t.Helper()
	if fault := parts(p.m.Arrive(p.v, room, id), want); fault != "" {
		t.Fatalf("Arrive(%q, %q): %s", room, id, fault)
	}
}

func checkWaits(t testing.TB, p *pair, lost int, want ...api.Edu) {
	t.Helper()
	if fault := parts(p.m.Waits(), want); fault != "" || p.m.Lost() != lost {
		t.Fatalf("Waits: %s; Lost is %d, want %d", fault, p.m.Lost(), lost)
	}
}

func checkMark(t testing.TB, p *pair, k receipt.Key, depth int, id string) {
	t.Helper()
	if at, is := p.m.Get(k); at != (api.Position{Depth: depth, ID: id}) || !is {
		t.Fatalf("Get(%+v) is %+v, %v, want %d, %q", k, at, is, depth, id)
	}
}

func checkNoMark(t testing.TB, p *pair, k receipt.Key) {
	t.Helper()
	if at, is := p.m.Get(k); at != (api.Position{}) || is {
		t.Fatalf("Get(%+v) is %+v, %v", k, at, is)
	}
}

// numbers are such as edges are made of.
func numbers() []int {
	return []int{math.MinInt, math.MinInt32, -1000, -1, 0, 1, 2, 60, 999, 1000, 1001, math.MaxInt32, 1 << 32, 1 << 40, 1<<40 + 1, math.MaxInt}
}

// texts are any.
func texts() []string {
	return []string{"", "\x00", " ", "!r:s", "!r:s ", "$a", "$A", "$a\x00", "$aa", "$none", "@a:s", "a", "main", "Main", "\xff", "é", strings.Repeat("a", 1000)}
}

// P13.1

func TestExample(t *testing.T) {
	p, e := pairOf(8, event("!r:s", "$a", "")), notice("@a:s", "$b", "")
	checkPut(t, p, e, false, api.OK)
	checkWaits(t, p, 0, e)
	checkNoMark(t, p, keyOf(e))
	p.v.Add(event("!r:s", "$b", "", "$a"))
	checkArrive(t, p, "!r:s", "$b", key("!r:s", "@a:s", ""))
	checkWaits(t, p, 0)
	checkMark(t, p, keyOf(e), 1, "$b")
}

func TestBoundsThatMayNotBe(t *testing.T) {
	for _, most := range numbers() {
		m, errno := marks.New(most)
		if may := 1 <= most && most <= 1000; may != (errno == api.OK) || may != (m != nil) || !may && errno != api.ErrArg {
			t.Errorf("New(%d) is %v, %v", most, m, errno)
		}
	}
}

func TestNewIsWithoutMarksAndEdus(t *testing.T) {
	for _, most := range []int{1, 2, api.MaxParked, 999, 1000} {
		for _, p := range []*pair{pairOf(most), pairOf(most, graph()...)} {
			if fault := p.wrong(); fault != "" {
				t.Fatal(fault)
			}
			for _, room := range texts() {
				for _, s := range texts() {
					checkNoMark(t, p, key(room, s, s))
					checkNoMark(t, p, hidden(key(room, s, s)))
					checkArrive(t, p, room, s)
				}
			}
			for _, e := range graph() {
				checkArrive(t, p, e.Room, e.ID)
			}
			if fault := p.wrong(); fault != "" {
				t.Fatal(fault)
			}
		}
	}
}

// TestEachBound: so many are parked, and from the next one on each puts the first one out.
func TestEachBound(t *testing.T) {
	for _, most := range []int{1, 2, 3, 7, 8, 9, 64, 100, 1000} {
		p := pairOf(most, graph()...)
		var edus []api.Edu
		for n := range 2*most + 3 {
			edus = append(edus, notice("@a:s", fmt.Sprint("$n", n), ""))
			checkPut(t, p, edus[n], false, api.OK)
			if from := max(0, n+1-most); n < 10 || n > most-3 && n < most+3 || n == 2*most+2 {
				checkWaits(t, p, from, edus[from:]...)
			}
		}
		if len(p.m.All()) != 0 {
			t.Fatal(p.m.All())
		}
	}
}

// TestOfAnyEdu: its Room, User, Thread and Private, whatever the other fields are, and whether or not it may be.
func TestOfAnyEdu(t *testing.T) {
	for _, kind := range numbers() {
		for i, room := range texts() {
			for j, user := range texts() {
				thread := texts()[(i+j)%len(texts())]
				for _, flag := range []bool{false, true} {
					e := api.Edu{Kind: kind, Room: room, User: user, Event: "$e", Thread: thread, Private: flag, On: !flag, Span: i, State: j, Tick: kind, Stamp: -kind}
					if got := marks.Of(e); got != (receipt.Key{Room: room, User: user, Thread: thread, Private: flag}) {
						t.Fatalf("Of(%+v) is %+v", e, got)
					}
				}
			}
		}
	}
	for _, e := range []api.Edu{{}, {Kind: api.Presence, User: "@a:s", State: api.Online}, {Event: "$e", On: true, Span: 3, State: 1, Tick: 2, Stamp: 4}} {
		if got := marks.Of(e); got != (receipt.Key{User: e.User}) {
			t.Errorf("Of(%+v) is %+v", e, got)
		}
	}
}

// refused is EDUs that may not be put, of an event that the graph has and of one that it has not.
func refused() []api.Edu {
	var all []api.Edu
	for _, id := range []string{"$a", "$none"} {
		good := stamped(notice("@a:s", id, "main"), 3, 4)
		add := func(change func(e *api.Edu)) {
			for _, e := range []api.Edu{good, private(good)} {
				change(&e)
				all = append(all, e)
			}
		}
		for _, s := range texts() {
			if s != "!r:s" {
				add(func(e *api.Edu) { e.Room = s })
			}
			if s != "@a:s" {
				add(func(e *api.Edu) { e.User = s })
			}
			if !slices.Contains([]string{"$a", "$A", "$aa", "$none"}, s) {
				add(func(e *api.Edu) { e.Event = s })
				if s != "" && s != "main" {
					add(func(e *api.Edu) { e.Thread = s })
				}
			}
		}
		for _, n := range numbers() {
			if n != api.Receipt {
				add(func(e *api.Edu) { e.Kind = n })
			}
			if n != 0 {
				add(func(e *api.Edu) { e.Span = n })
				add(func(e *api.Edu) { e.State = n })
			}
			if n < 0 || n > api.MaxNumber {
				add(func(e *api.Edu) { e.Tick = n })
				add(func(e *api.Edu) { e.Stamp = n })
			}
		}
		add(func(e *api.Edu) { e.On = true })
		add(func(e *api.Edu) { e.On, e.Span = true, 5 })
		add(func(e *api.Edu) { e.Thread = "$toolongtoolongtoo" })
		add(func(e *api.Edu) { e.Room, e.User = e.User, e.Room })
		add(func(e *api.Edu) { *e = api.Edu{} })
	}
	return append(all,
		api.Edu{Kind: api.Receipt},
		api.Edu{Kind: api.Typing, Room: "!r:s", User: "@a:s"},
		api.Edu{Kind: api.Typing, Room: "!r:s", User: "@a:s", On: true, Span: 5, Tick: 1, Stamp: 1},
		api.Edu{Kind: api.Presence, User: "@a:s"},
		api.Edu{Kind: api.Presence, User: "@a:s", State: api.Online},
	)
}

// TestEdusThatMayNotBePut: ErrArg, be their event known or not, and nothing is changed: none is parked, none is lost, no mark goes on.
func TestEdusThatMayNotBePut(t *testing.T) {
	for _, p := range []*pair{pairOf(1), pairOf(1, graph()...), pairOf(3, graph()...)} {
		p.follow(t, puts(notice("@a:s", "$z", ""), notice("@a:s", "$a", ""))...)
		for _, e := range refused() {
			checkPut(t, p, e, false, api.ErrArg)
			if fault := p.wrong(); fault != "" {
				t.Fatalf("behind %+v: %s", e, fault)
			}
		}
	}
}

// TestNumbersThatMayBe: of any Tick and Stamp from 0 to 2^40, which the marks do not hang on.
func TestNumbersThatMayBe(t *testing.T) {
	p := pairOf(1000, graph()...)
	p.follow(t, put(stamped(notice("@a:s", "$b", ""), 9, 9)))
	for _, tick := range []int{0, 1, 2, 1<<40 - 1, 1 << 40} {
		for _, stamp := range []int{0, 1, 2, 1<<40 - 1, 1 << 40} {
			checkPut(t, p, stamped(notice("@a:s", "$b", ""), tick, stamp), false, api.OK)
			checkPut(t, p, stamped(notice("@a:s", "$a", ""), tick, stamp), false, api.OK)
			p.follow(t, put(stamped(notice("@a:s", "$none", ""), tick, stamp)))
		}
	}
	checkMark(t, p, key("!r:s", "@a:s", ""), 1, "$b")
	if got := len(p.m.Waits()); got != 25 {
		t.Errorf("%d wait", got)
	}
	p.follow(t, put(stamped(notice("@a:s", "$c", ""), 0, 0)))
	checkMark(t, p, key("!r:s", "@a:s", ""), 2, "$c")
}

// TestThreads: which of a room's events are of which threads, by hand.
func TestThreads(t *testing.T) {
	for thread, events := range map[string][]string{
		"":      {"$a", "$b", "$c", "$d", "$t", "$u", "$w", "$x"},
		"main":  {"$a", "$b", "$c", "$d", "$t"},
		"$t":    {"$t", "$u", "$w"},
		"$b":    {"$b", "$x"},
		"$a":    {"$a"},
		"$c":    {"$c"},
		"$d":    {"$d"},
		"$u":    {"$u"},
		"$w":    {"$w"},
		"$x":    {"$x"},
		"$none": {},
	} {
		for _, id := range []string{"$a", "$b", "$c", "$d", "$t", "$u", "$w", "$x"} {
			for _, e := range []api.Edu{notice("@a:s", id, thread), private(notice("@a:s", id, thread))} {
				p := pairOf(1, graph()...)
				p.follow(t, put(notice("@b:t", "$z", "")))
				if slices.Contains(events, id) {
					checkPut(t, p, e, true, api.OK)
					checkPut(t, p, e, false, api.OK)
					if all := p.m.All(); len(all) != 1 || all[0].Key != keyOf(e) || all[0].At.ID != id {
						t.Fatalf("%+v: %+v", e, all)
					}
				} else {
					checkPut(t, p, e, false, api.ErrThread)
					if fault := p.wrong(); fault != "" {
						t.Fatalf("behind %+v: %s", e, fault)
					}
				}
				checkWaits(t, p, 0, notice("@b:t", "$z", ""))
			}
		}
	}
}

// TestDepths of the events at which marks are, by hand.
func TestDepths(t *testing.T) {
	p := pairOf(8, graph()...)
	for _, x := range []struct {
		room, id string
		depth    int
	}{
		{"!r:s", "$a", 0}, {"!r:s", "$t", 1}, {"!r:s", "$b", 1}, {"!r:s", "$u", 2}, {"!r:s", "$x", 2}, {"!r:s", "$c", 2},
		{"!r:s", "$w", 3}, {"!r:s", "$d", 4}, {"!q:s", "$b", 0}, {"!q:s", "$u", 1}, {"!q:s", "$t", 2}, {"!q:s", "$e", 3},
	} {
		user := "@" + x.id[1:] + ":s"
		checkPut(t, p, in(x.room, notice(user, x.id, "")), true, api.OK)
		checkMark(t, p, key(x.room, user, ""), x.depth, x.id)
	}
}

// TestMarksGoOn by the depth, and then by the ID; an event at the same depth whose ID is less, and the same one, are none.
func TestMarksGoOn(t *testing.T) {
	p := pairOf(8, graph()...)
	for _, x := range []struct {
		id string
		on bool
	}{
		{"$a", true}, {"$a", false}, {"$b", true}, {"$a", false}, {"$t", true}, {"$b", false}, {"$u", true}, {"$c", false},
		{"$x", true}, {"$u", false}, {"$t", false}, {"$w", true}, {"$x", false}, {"$d", true}, {"$d", false}, {"$w", false}, {"$a", false},
	} {
		checkPut(t, p, notice("@a:s", x.id, ""), x.on, api.OK)
	}
	checkMark(t, p, key("!r:s", "@a:s", ""), 4, "$d")
}

// TestEachTwo receipts of the graph's events, one behind the other, of one user.
func TestEachTwo(t *testing.T) {
	events := graph()
	for _, first := range events {
		for _, second := range events {
			for _, threads := range [][2]string{{"", ""}, {"main", "main"}, {"main", ""}, {"$t", "$t"}, {"", "$b"}} {
				for hides := range 4 {
					a, b := in(first.Room, notice("@a:s", first.ID, threads[0])), in(second.Room, notice("@a:s", second.ID, threads[1]))
					a.Private, b.Private = hides&1 == 1, hides&2 == 2
					pairOf(8, events...).follow(t, put(a), put(b), put(a))
				}
			}
		}
	}
}

// TestKeysAreApart: a mark of one of them is none of another one, be it another room's, user's, thread's, or private.
func TestKeysAreApart(t *testing.T) {
	p := pairOf(8, graph()...)
	edus := []api.Edu{
		notice("@a:s", "$t", ""), private(notice("@a:s", "$t", "")), notice("@b:t", "$t", ""), notice("@a:s", "$t", "main"),
		notice("@a:s", "$t", "$t"), in("!q:s", notice("@a:s", "$t", "")), notice("@a:t", "$t", ""), in("!q:s", notice("@a:s", "$t", "$b")),
	}
	for n, e := range edus {
		checkNoMark(t, p, keyOf(e))
		checkPut(t, p, e, true, api.OK)
		if got := len(p.m.All()); got != n+1 {
			t.Fatalf("%d marks behind %d", got, n+1)
		}
	}
	p = pairOf(8, graph()...)
	p.follow(t, puts(edus...)...)
	p.follow(t, put(in("!q:s", notice("@a:s", "$none", ""))), put(notice("@a:s", "$e", "")), put(in("!q:s", notice("@a:s", "$a", ""))))
	checkWaits(t, p, 0, in("!q:s", notice("@a:s", "$none", "")), notice("@a:s", "$e", ""), in("!q:s", notice("@a:s", "$a", "")))
}

// TestUnknownRoom: none of its events is known, and what it has is parked whatever its thread is.
func TestUnknownRoom(t *testing.T) {
	p := pairOf(20, graph()...)
	edus := []api.Edu{notice("@a:s", "$a", ""), notice("@a:s", "$a", "main"), private(notice("@a:s", "$u", "main")), notice("@a:s", "$none", "$t")}
	for i := range edus {
		edus[i] = in("!z:s", edus[i])
		checkPut(t, p, edus[i], false, api.OK)
	}
	checkWaits(t, p, 0, edus...)
	checkArrive(t, p, "!z:s", "$a")
	checkWaits(t, p, 0, edus...)
}

// TestParkedOnce: the same one is there once, and keeps its place; one that parts in a number alone is another one.
func TestParkedOnce(t *testing.T) {
	p, a, b := pairOf(3), notice("@a:s", "$a", ""), notice("@a:s", "$b", "")
	for range 3 {
		checkPut(t, p, a, false, api.OK)
		checkPut(t, p, b, false, api.OK)
		checkWaits(t, p, 0, a, b)
	}
	checkPut(t, p, stamped(a, 0, 1), false, api.OK)
	checkWaits(t, p, 0, a, b, stamped(a, 0, 1))
	checkPut(t, p, stamped(a, 1, 0), false, api.OK)
	checkWaits(t, p, 1, b, stamped(a, 0, 1), stamped(a, 1, 0))
	checkPut(t, p, private(b), false, api.OK)
	checkWaits(t, p, 2, stamped(a, 0, 1), stamped(a, 1, 0), private(b))
}

// TestKnownIsNotParked, though one of the same event is still parked, as Arrive has not been asked.
func TestKnownIsNotParked(t *testing.T) {
	p, e := pairOf(8), notice("@a:s", "$a", "")
	p.follow(t, put(e), comes(event("!r:s", "$a", "")))
	checkPut(t, p, e, true, api.OK)
	checkWaits(t, p, 0, e)
	checkPut(t, p, stamped(e, 0, 1), false, api.OK)
	checkPut(t, p, notice("@a:s", "$a", "$b"), false, api.ErrThread)
	checkWaits(t, p, 0, e)
	checkArrive(t, p, "!r:s", "$a")
	checkWaits(t, p, 0)
}

// TestTheViewThatIsHandedIn is asked, no other one: not one that was handed in ahead.
func TestTheViewThatIsHandedIn(t *testing.T) {
	wide, narrow := pairOf(8, graph()...), view.New()
	m, e := wide.m, notice("@a:s", "$a", "")
	if on, errno := m.Put(wide.v, e); !on || errno != api.OK {
		t.Error(on, errno)
	}
	if on, errno := m.Put(narrow, notice("@a:s", "$b", "")); on || errno != api.OK {
		t.Error(on, errno)
	}
	if keys := m.Arrive(narrow, "!r:s", "$b"); len(keys) != 0 || len(m.Waits()) != 1 {
		t.Error(keys, m.Waits())
	}
	if keys := m.Arrive(wide.v, "!r:s", "$b"); !slices.Equal(keys, []receipt.Key{key("!r:s", "@a:s", "")}) || len(m.Waits()) != 0 {
		t.Error(keys, m.Waits())
	}
}

// P13.2

// TestRowOfKeys: as the marks have gone on, which is the row in which the EDUs came, not that of keys; each once.
func TestRowOfKeys(t *testing.T) {
	p := pairOf(20, event("!r:s", "$a", ""))
	edus := []api.Edu{
		notice("@c:s", "$b", ""), notice("@a:s", "$b", "main"), private(notice("@b:s", "$b", "")), notice("@b:s", "$b", ""),
		stamped(notice("@c:s", "$b", ""), 0, 1), notice("@a:s", "$b", ""), notice("@a:s", "$b", "$b"), stamped(notice("@a:s", "$b", "main"), 5, 0),
	}
	p.follow(t, puts(edus...)...)
	p.follow(t, comes(event("!r:s", "$b", "", "$a")))
	checkArrive(t, p, "!r:s", "$b",
		key("!r:s", "@c:s", ""), key("!r:s", "@a:s", "main"), hidden(key("!r:s", "@b:s", "")), key("!r:s", "@b:s", ""),
		key("!r:s", "@a:s", ""), key("!r:s", "@a:s", "$b"))
	checkWaits(t, p, 0)
	if got := len(p.m.All()); got != 6 {
		t.Errorf("%d marks", got)
	}
	for _, mark := range p.m.All() {
		if mark.At != (api.Position{Depth: 1, ID: "$b"}) {
			t.Errorf("%+v", mark)
		}
	}
	checkArrive(t, p, "!r:s", "$b")
}

// TestArriveOfUnknown: nothing is done, be the room not known, or the event, or be it another room's.
func TestArriveOfUnknown(t *testing.T) {
	p := pairOf(8, event("!r:s", "$a", ""), event("!q:s", "$b", ""))
	edus := []api.Edu{notice("@a:s", "$b", ""), in("!z:s", notice("@a:s", "$b", "")), in("!q:s", notice("@a:s", "$a", ""))}
	p.follow(t, puts(edus...)...)
	for _, x := range [][2]string{{"!r:s", "$b"}, {"!z:s", "$b"}, {"!z:s", "$a"}, {"!q:s", "$a"}, {"!r:s", "$none"}, {"", "$b"}, {"!r:s", ""}, {"", ""}, {"$b", "!r:s"}, {"!R:s", "$b"}} {
		for range 2 {
			checkArrive(t, p, x[0], x[1])
			checkWaits(t, p, 0, edus...)
		}
	}
	if fault := p.wrong(); fault != "" {
		t.Error(fault)
	}
}

// TestArriveLeavesOthers: of another event, or of another room, in their row.
func TestArriveLeavesOthers(t *testing.T) {
	p := pairOf(20, graph()...)
	far := view.New()
	edus := []api.Edu{notice("@a:s", "$b", ""), in("!q:s", notice("@a:s", "$b", "")), notice("@a:s", "$c", ""), notice("@b:s", "$b", ""), in("!q:s", notice("@a:s", "$u", "")), notice("@b:s", "$t", "main")}
	for _, e := range edus {
		p.m.Put(far, e)
	}
	checkWaits(t, p, 0, edus...)
	checkArrive(t, p, "!r:s", "$a")
	checkWaits(t, p, 0, edus...)
	checkArrive(t, p, "!r:s", "$b", key("!r:s", "@a:s", ""), key("!r:s", "@b:s", ""))
	checkWaits(t, p, 0, edus[1], edus[2], edus[4], edus[5])
	checkArrive(t, p, "!q:s", "$u", key("!q:s", "@a:s", ""))
	checkWaits(t, p, 0, edus[1], edus[2], edus[5])
	checkArrive(t, p, "!q:s", "$b")
	checkWaits(t, p, 0, edus[2], edus[5])
	checkArrive(t, p, "!r:s", "$t", key("!r:s", "@b:s", "main"))
	checkArrive(t, p, "!r:s", "$c", key("!r:s", "@a:s", ""))
	checkWaits(t, p, 0)
	checkMark(t, p, key("!q:s", "@a:s", ""), 1, "$u")
}

// TestThoseThatDoNotFitAreGone: neither parked nor put nor lost, whichever place they have.
func TestThoseThatDoNotFitAreGone(t *testing.T) {
	right, bad := notice("@a:s", "$b", "main"), notice("@a:s", "$b", "$c")
	for _, edus := range [][]api.Edu{{bad}, {bad, right}, {right, bad}, {bad, right, stamped(bad, 1, 1)}, {stamped(right, 2, 2), bad, right}} {
		p := pairOf(8, event("!r:s", "$a", ""))
		p.follow(t, puts(edus...)...)
		p.follow(t, comes(event("!r:s", "$b", "", "$a")))
		if slices.Contains(edus, right) {
			checkArrive(t, p, "!r:s", "$b", keyOf(right))
			checkMark(t, p, keyOf(right), 1, "$b")
		} else {
			checkArrive(t, p, "!r:s", "$b")
		}
		checkNoMark(t, p, keyOf(bad))
		checkWaits(t, p, 0)
		checkPut(t, p, bad, false, api.ErrThread)
		checkArrive(t, p, "!r:s", "$b")
	}
	p := pairOf(8, graph()[:3]...)
	p.follow(t, put(notice("@a:s", "$u", "main")), put(notice("@b:s", "$u", "$t")), put(notice("@c:s", "$u", "$u")), put(notice("@d:s", "$u", "$b")), put(notice("@e:s", "$u", "")))
	p.follow(t, comes(graph()[3]))
	checkArrive(t, p, "!r:s", "$u", key("!r:s", "@b:s", "$t"), key("!r:s", "@c:s", "$u"), key("!r:s", "@e:s", ""))
	checkWaits(t, p, 0)
}

// TestMarksThatWereFurther are not told: what was parked is ahead of where they are, or there; it is parked no more.
func TestMarksThatWereFurther(t *testing.T) {
	for _, x := range []struct {
		id string
		on bool
	}{{"$a", true}, {"$b", true}, {"$t", false}, {"$u", false}, {"$d", false}} {
		p := pairOf(8, slices.DeleteFunc(graph(), func(e api.Event) bool { return e.Room == "!r:s" && e.ID != "$a" })...)
		far := pairOf(8, graph()...)
		p.m.Put(p.v, notice("@a:s", "$t", ""))
		if _, errno := p.m.Put(far.v, notice("@a:s", x.id, "")); errno != api.OK {
			t.Fatal(errno)
		}
		keys := p.m.Arrive(far.v, "!r:s", "$t")
		if want := []receipt.Key{key("!r:s", "@a:s", "")}; x.on != slices.Equal(keys, want) || !x.on && len(keys) != 0 {
			t.Errorf("a mark at %s: Arrive of $t: %v", x.id, keys)
		}
		checkWaits(t, p, 0)
	}
}

// TestRowOfArrivals: each Arrive tells what goes on then; of an event that is ahead of the mark nothing does.
func TestRowOfArrivals(t *testing.T) {
	steps := puts(notice("@a:s", "$t", ""), notice("@a:s", "$c", ""), notice("@b:t", "$t", ""), notice("@a:s", "$d", ""))
	late := pairOf(8)
	late.follow(t, steps...)
	for _, e := range graph() {
		late.follow(t, comes(e))
	}
	checkArrive(t, late, "!r:s", "$c", key("!r:s", "@a:s", ""))
	checkArrive(t, late, "!r:s", "$t", key("!r:s", "@b:t", ""))
	checkArrive(t, late, "!r:s", "$d", key("!r:s", "@a:s", ""))
	checkMark(t, late, key("!r:s", "@a:s", ""), 4, "$d")
	soon := pairOf(8)
	soon.follow(t, steps...)
	for _, e := range graph() {
		soon.follow(t, comes(e), arrives(e.Room, e.ID))
	}
	checkMark(t, soon, key("!r:s", "@a:s", ""), 4, "$d")
	checkWaits(t, soon, 0)
}

// TestLostIsNotPut: what has gone because of the bound makes no mark; it may come again.
func TestLostIsNotPut(t *testing.T) {
	p := pairOf(2)
	a, b, c := notice("@a:s", "$a", ""), notice("@b:s", "$a", ""), notice("@c:s", "$a", "")
	p.follow(t, put(a), put(b), put(c), comes(event("!r:s", "$a", "")))
	checkArrive(t, p, "!r:s", "$a", keyOf(b), keyOf(c))
	checkNoMark(t, p, keyOf(a))
	checkWaits(t, p, 1)
	checkPut(t, p, a, true, api.OK)
	checkMark(t, p, keyOf(a), 0, "$a")
	checkWaits(t, p, 1)
}

// TestArriveMakesRoom for what is parked behind it.
func TestArriveMakesRoom(t *testing.T) {
	p := pairOf(2)
	p.follow(t, put(notice("@a:s", "$a", "")), put(notice("@a:s", "$b", "")), comes(event("!r:s", "$a", "")), arrives("!r:s", "$a"),
		put(notice("@a:s", "$c", "")))
	checkWaits(t, p, 0, notice("@a:s", "$b", ""), notice("@a:s", "$c", ""))
	p.follow(t, put(notice("@a:s", "$d", "")))
	checkWaits(t, p, 1, notice("@a:s", "$c", ""), notice("@a:s", "$d", ""))
}

// P13.3

// TestTablesRow: All is sorted by room, user, thread, and then those that are not private ahead; Public leaves these out alone.
func TestTablesRow(t *testing.T) {
	p := pairOf(8, graph()...)
	rooms, users, threads := []string{"!r:s", "!q:s"}, []string{"@b:s", "@a:t", "@a:s", "@aa:s", "@ab:s", "@a.b:s"}, []string{"main", "", "$b"}
	for _, room := range rooms {
		for _, user := range users {
			for _, thread := range threads {
				p.follow(t, put(private(in(room, notice(user, "$b", thread)))), put(in(room, notice(user, "$b", thread))))
			}
		}
	}
	if all, public := p.m.All(), p.m.Public(); len(all) != 72 || len(public) != 36 {
		t.Errorf("%d marks, %d public", len(all), len(public))
	}
	all := p.m.All()
	for i := range len(all) - 1 {
		if receipt.Compare(all[i].Key, all[i+1].Key) != -1 {
			t.Errorf("%+v is ahead of %+v", all[i], all[i+1])
		}
	}
}

func TestPrivateAlone(t *testing.T) {
	p := pairOf(8, graph()...)
	p.follow(t, put(private(notice("@a:s", "$b", ""))))
	if len(p.m.All()) != 1 || len(p.m.Public()) != 0 {
		t.Error(p.m.All(), p.m.Public())
	}
	checkNoMark(t, p, key("!r:s", "@a:s", ""))
	checkMark(t, p, hidden(key("!r:s", "@a:s", "")), 1, "$b")
	p.follow(t, put(private(notice("@a:s", "$none", ""))))
	checkWaits(t, p, 0, private(notice("@a:s", "$none", "")))
}

// TestNoMoreIsPromoted: a table's and a park's calls that change them are none of the marks' own.
func TestNoMoreIsPromoted(t *testing.T) {
	var m any = pairOf(1).m
	if _, is := m.(interface{ Merge(*receipt.Table) int }); is {
		t.Error("Merge")
	}
	if _, is := m.(interface {
		Take(string, string) []api.Edu
	}); is {
		t.Error("Take")
	}
}

// P13.4

// eachRow tells all rows of 0 to n-1.
func eachRow(n int, tell func(row []int)) {
	row := make([]int, n)
	for i := range row {
		row[i] = i
	}
	var turn func(from int)
	turn = func(from int) {
		if from == n {
			tell(row)
			return
		}
		for i := from; i < n; i++ {
			row[from], row[i] = row[i], row[from]
			turn(from + 1)
			row[from], row[i] = row[i], row[from]
		}
	}
	turn(0)
}

// tableOf is the marks of these receipts, put where all of these events are known.
func tableOf(events []api.Event, edus []api.Edu) []receipt.Mark {
	m := model{most: 1000, events: events}
	for _, e := range edus {
		m.put(e)
	}
	return m.all()
}

// TestInWhateverRow: four events and four receipts, in each row in which the events may come; what is parked is put when its event comes.
func TestInWhateverRow(t *testing.T) {
	events := []api.Event{event("!r:s", "$a", ""), event("!r:s", "$b", "", "$a"), event("!r:s", "$c", "", "$a"), event("!r:s", "$d", "$b", "$b")}
	edus := []api.Edu{notice("@a:s", "$b", "main"), notice("@a:s", "$c", "main"), notice("@a:s", "$d", "main"), notice("@a:s", "$a", "main")}
	others := []api.Edu{notice("@a:s", "$d", "$b"), notice("@a:s", "$b", "$b"), private(notice("@a:s", "$d", "")), notice("@b:t", "$c", "$b")}
	for _, edus := range [][]api.Edu{edus, others} {
		want := tableOf(events, edus)
		rows := 0
		eachRow(len(events)+len(edus), func(row []int) {
			p := pairOf(len(edus))
			for _, i := range row {
				if i >= len(events) {
					p.m.Put(p.v, edus[i-len(events)])
					continue
				}
				if p.v.Add(events[i]) != api.OK {
					return
				}
				p.m.Arrive(p.v, events[i].Room, events[i].ID)
			}
			rows++
			if fault := parts(p.m.All(), want); fault != "" || len(p.m.Waits()) != 0 || p.m.Lost() != 0 {
				t.Fatalf("%v: %s; %v wait, %d are lost", row, fault, p.m.Waits(), p.m.Lost())
			}
		})
		if rows != 8*7*6*5*3 { // the events alone have three rows
			t.Fatalf("%d rows", rows)
		}
	}
}

// TestArriveInWhateverRow: all events are known at once, and what waits of each is put in each row of them.
func TestArriveInWhateverRow(t *testing.T) {
	events := graph()[:7]
	var edus []api.Edu
	for _, e := range events {
		for _, thread := range []string{"", "main", "$t"} {
			edus = append(edus, notice("@a:s", e.ID, thread), private(notice("@b:t", e.ID, thread)))
		}
	}
	want := tableOf(events, edus)
	eachRow(len(events), func(row []int) {
		p := pairOf(len(edus))
		for _, e := range edus {
			p.m.Put(p.v, e)
		}
		for _, e := range events {
			p.v.Add(e)
		}
		for _, i := range row {
			p.m.Arrive(p.v, "!r:s", events[i].ID)
		}
		if fault := parts(p.m.All(), want); fault != "" || len(p.m.Waits()) != 0 {
			t.Fatalf("%v: %s", row, fault)
		}
	})
}

// TestAllRowsOfSteps, held against the model behind each step: few receipts, their events, and arrivals of what is known and of what is not.
func TestAllRowsOfSteps(t *testing.T) {
	steps := []step{
		put(notice("@a:s", "$a", "")), put(stamped(notice("@a:s", "$a", ""), 0, 1)), put(notice("@a:s", "$b", "")), put(notice("@a:s", "$b", "$b")), put(notice("@a:s", "$a", "$b")),
		comes(event("!r:s", "$a", "")), comes(event("!r:s", "$b", "")), arrives("!r:s", "$a"), arrives("!r:s", "$b"),
	}
	row := make([]step, 5)
	var choose func(most, at int)
	choose = func(most, at int) {
		if at == len(row) {
			p := pairOf(most)
			for i, s := range row {
				if s.call == "comes" && p.isKnown(s.of) {
					return
				}
				if fault := s.do(p); fault != "" {
					t.Fatalf("bound %d: step %d of %v: %s", most, i, row, fault)
				}
			}
			return
		}
		for _, s := range steps {
			row[at] = s
			choose(most, at+1)
		}
	}
	for most := 1; most <= 3; most++ {
		choose(most, 0)
	}
}

// randomEvents are of up to two rooms, each behind its Parents and its Thread.
func randomEvents(random *rand.Rand, n int) []api.Event {
	ids := map[string][]string{}
	firsts := map[string][]string{}
	var events []api.Event
	for i := range n {
		room := []string{"!r:s", "!r:s", "!q:s"}[random.Intn(3)]
		e := event(room, fmt.Sprint("$", random.Intn(1000)*100+i), "")
		for range min(len(ids[room]), random.Intn(3)) {
			e.Parents = append(e.Parents, ids[room][random.Intn(len(ids[room]))])
		}
		slices.Sort(e.Parents)
		e.Parents = slices.Compact(e.Parents)
		if list := firsts[room]; len(list) > 0 && random.Intn(3) == 0 {
			e.Thread = list[random.Intn(len(list))]
		} else if random.Intn(5) > 0 {
			firsts[room] = append(firsts[room], e.ID)
		} else {
			e.Does = api.Joins + random.Intn(2)
		}
		ids[room] = append(ids[room], e.ID)
		events = append(events, e)
	}
	return events
}

// randomNotice is a receipt of one of the events, or of one that never comes.
func randomNotice(random *rand.Rand, events []api.Event) api.Edu {
	of := events[random.Intn(len(events))]
	threads := []string{"", "main", of.Thread, of.ID, events[random.Intn(len(events))].ID}
	e := in(of.Room, notice([]string{"@a:s", "@b:t", "@c:s"}[random.Intn(3)], of.ID, threads[random.Intn(len(threads))]))
	e.Private = random.Intn(4) == 0
	e.Stamp = random.Intn(2)
	if random.Intn(20) == 0 {
		e.Event = "$never"
	}
	return e
}

// randomRow is a row in which each event comes behind those that it needs.
func randomRow(random *rand.Rand, events []api.Event) []api.Event {
	var row []api.Event
	v := view.New()
	for len(row) < len(events) {
		e := events[random.Intn(len(events))]
		if v.Add(e) == api.OK {
			row = append(row, e)
		}
	}
	return row
}

// TestRowsOfChance, held against the model behind each step.
func TestRowsOfChance(t *testing.T) {
	random := rand.New(rand.NewSource(1))
	for range 150 {
		events := randomEvents(random, 1+random.Intn(25))
		p, row := pairOf(1+random.Intn(12)), randomRow(random, events)
		for len(row) > 0 {
			s := put(randomNotice(random, events))
			switch random.Intn(8) {
			case 0:
				s, row = comes(row[0]), row[1:]
			case 1:
				e := events[random.Intn(len(events))]
				s = arrives(e.Room, e.ID)
			}
			if fault := s.do(p); fault != "" {
				t.Fatalf("%v: %s", s, fault)
			}
		}
	}
}

// TestHoweverOften: the same events and receipts, these once or more, in rows of chance, make the same table where none is lost; that of two servers with other rows is the same.
func TestHoweverOften(t *testing.T) {
	random := rand.New(rand.NewSource(2))
	for range 150 {
		events := randomEvents(random, 1+random.Intn(20))
		var edus []api.Edu
		for range 30 {
			edus = append(edus, randomNotice(random, events))
		}
		want := tableOf(events, edus)
		for range 3 {
			p, row, left := pairOf(len(edus)), randomRow(random, events), slices.Clone(edus)
			for len(row)+len(left) > 0 {
				if len(row) > 0 && random.Intn(3) == 0 {
					p.v.Add(row[0])
					p.m.Arrive(p.v, row[0].Room, row[0].ID)
					row = row[1:]
				}
				if len(left) > 0 {
					i := random.Intn(len(left))
					p.m.Put(p.v, left[i])
					left = slices.Delete(left, i, i+1)
				}
				p.m.Put(p.v, edus[random.Intn(len(edus))])
			}
			for _, e := range randomRow(random, events) {
				if keys := p.m.Arrive(p.v, e.Room, e.ID); len(keys) != 0 {
					t.Fatalf("%v again", keys)
				}
			}
			if p.m.Lost() != 0 {
				t.Fatalf("%d are lost", p.m.Lost())
			}
			if fault := parts(p.m.All(), want); fault != "" {
				t.Fatal(fault)
			}
			for _, e := range p.m.Waits() {
				if e.Event != "$never" {
					t.Fatalf("%+v waits", e)
				}
			}
		}
	}
}

// TestMarksNeverGoBack: behind each step each mark is where it was, or further on; never at an event that is ahead of where it was.
func TestMarksNeverGoBack(t *testing.T) {
	random := rand.New(rand.NewSource(3))
	for range 60 {
		events := randomEvents(random, 20)
		p, row, last := pairOf(3), randomRow(random, events), map[receipt.Key]api.Position{}
		for range 200 {
			e := randomNotice(random, events)
			before, was := p.m.Get(marks.Of(e))
			on, errno := p.m.Put(p.v, e)
			after, is := p.m.Get(marks.Of(e))
			if errno == api.OK && on != (is && (!was || isAhead(before, after))) || errno != api.OK && (on || before != after) {
				t.Fatalf("Put(%+v) is %v, %v: from %+v to %+v", e, on, errno, before, after)
			}
			if len(row) > 0 && random.Intn(5) == 0 {
				p.v.Add(row[0])
				p.m.Arrive(p.v, row[0].Room, row[0].ID)
				row = row[1:]
			}
			for k, at := range last {
				if now, is := p.m.Get(k); !is || now != at && !isAhead(at, now) {
					t.Fatalf("%+v is at %+v, was at %+v", k, now, at)
				}
			}
			for _, mark := range p.m.All() {
				last[mark.Key] = mark.At
			}
		}
	}
}

// The rules of all layers

// some is marks with several of all kinds, and what their view lacks.
func some(t testing.TB) *pair {
	p := pairOf(4, graph()[:6]...)
	p.follow(t, puts(
		notice("@a:s", "$b", ""), private(notice("@a:s", "$c", "main")), notice("@b:t", "$u", "$t"), in("!q:s", notice("@a:s", "$b", "main")),
		notice("@a:s", "$w", "$t"), notice("@b:t", "$w", "main"), private(notice("@b:t", "$w", "")), notice("@b:t", "$w", "$t"),
	)...)
	return p
}

func TestAskingChangesNothing(t *testing.T) {
	p := some(t)
	for range 20 {
		if fault := p.wrong(); fault != "" {
			t.Fatal(fault)
		}
		checkNoMark(t, p, key("!none:s", "@a:s", ""))
		marks.Of(p.want.edus[0])
		checkArrive(t, p, "!r:s", "$a")
		checkArrive(t, p, "!r:s", "$w")
	}
}

// TestTheViewIsNotChanged by Put and Arrive.
func TestTheViewIsNotChanged(t *testing.T) {
	p, same := some(t), view.New()
	for _, e := range graph()[:6] {
		same.Add(e)
	}
	p.follow(t, put(in("!z:s", notice("@a:s", "$a", ""))), put(notice("@a:s", "$t", "main")), arrives("!r:s", "$w"), arrives("!z:s", "$a"), arrives("!r:s", "$t"))
	if !p.v.Same(same) || !slices.Equal(p.v.Rooms(), []string{"!r:s"}) {
		t.Error(p.v.Rooms())
	}
}

// TestMarksAreApart: what one of them is told others do not have, of one view or of several.
func TestMarksAreApart(t *testing.T) {
	a, b := some(t), some(t)
	c, _ := marks.New(1)
	c.Put(a.v, notice("@z:s", "$a", ""))
	b.follow(t, put(notice("@z:s", "$b", "")), put(notice("@z:s", "$none", "")), comes(graph()[6]), arrives("!r:s", "$w"))
	for _, p := range []*pair{a, b} {
		if fault := p.wrong(); fault != "" {
			t.Error(fault)
		}
	}
	if got := c.All(); len(got) != 1 || len(c.Waits()) != 0 {
		t.Error(got)
	}
}

// spoil changes a list, and its spare room.
func spoil[T any](list []T, by T) {
	whole := list[:cap(list)]
	for i := range whole {
		whole[i] = by
	}
}

func TestAnswersMayBeChanged(t *testing.T) {
	p, other := some(t), receipt.Mark{Key: key("!changed:s", "@z:s", ""), At: api.Position{Depth: 99, ID: "$z"}}
	for range 2 {
		spoil(p.m.All(), other)
		spoil(p.m.Public(), other)
		spoil(p.m.Waits(), notice("@z:s", "$z", ""))
		spoil(p.m.Arrive(p.v, "!r:s", "$none"), other.Key)
		if fault := p.wrong(); fault != "" {
			t.Fatal(fault)
		}
	}
	p.follow(t, comes(graph()[6]))
	p.want.arrive("!r:s", "$w")
	spoil(p.m.Arrive(p.v, "!r:s", "$w"), other.Key)
	if fault := p.wrong(); fault != "" {
		t.Fatal(fault)
	}
}

// TestWhatWasToldStays, whatever comes behind it.
func TestWhatWasToldStays(t *testing.T) {
	p := some(t)
	all, public, waits := p.m.All(), p.m.Public(), p.m.Waits()
	wantAll, wantPublic, wantWaits := slices.Clone(all), slices.Clone(public), slices.Clone(waits)
	p.follow(t, comes(graph()[6]), put(notice("@a:s", "$z", "")))
	keys := p.m.Arrive(p.v, "!r:s", "$w")
	wantKeys := slices.Clone(keys)
	for _, id := range []string{"$x", "$w", "$y", "$v", "$p", "$o"} {
		for _, user := range []string{"@a:s", "@b:t", "@0:s"} {
			p.m.Put(p.v, notice(user, id, ""))
		}
	}
	p.m.Arrive(p.v, "!r:s", "$w")
	if len(keys) == 0 || !slices.Equal(all, wantAll) || !slices.Equal(public, wantPublic) || !slices.Equal(waits, wantWaits) || !slices.Equal(keys, wantKeys) {
		t.Errorf("%v, %v, %v, %v", all, public, waits, keys)
	}
}

// checkSpare: a list's spare room holds nothing.
func checkSpare[T comparable](t testing.TB, list []T) {
	t.Helper()
	var none T
	for _, x := range list[len(list):cap(list)] {
		if x != none {
			t.Errorf("%+v", x)
		}
	}
}

func TestNothingIsInSpareRoom(t *testing.T) {
	p := some(t)
	checkSpare(t, p.m.All())
	checkSpare(t, p.m.Public())
	checkSpare(t, p.m.Waits())
	p.follow(t, comes(graph()[6]))
	checkSpare(t, p.m.Arrive(p.v, "!r:s", "$w"))
	checkSpare(t, p.m.Waits())
}

// renewed is an EDU whose texts are made by a function, one by one.
func renewed(e api.Edu, text func(string) string) api.Edu {
	e.Room, e.User, e.Event, e.Thread = text(e.Room), text(e.User), text(e.Event), text(e.Thread)
	return e
}

// TestTextsHandedInMayBecomeOthers, behind whatever call.
func TestTextsHandedInMayBecomeOthers(t *testing.T) {
	var handed [][]byte
	own := func(s string) string {
		b := []byte(s + "\x00")
		handed = append(handed, b)
		return unsafe.String(&b[0], len(s))
	}
	p := pairOf(4, graph()[:6]...)
	for _, e := range append(some(t).want.edus, notice("@a:s", "$b", ""), private(notice("@a:s", "$c", "main")), notice("@a:s", "$x", "$b")) {
		p.want.put(e)
		p.m.Put(p.v, renewed(e, own))
		p.m.Put(p.v, renewed(e, own))
	}
	wantKey := key("!r:s", "@a:s", "$t")
	k := marks.Of(renewed(notice("@a:s", "$w", "$t"), own))
	at, _ := p.m.Get(receipt.Key{Room: own("!r:s"), User: own("@a:s"), Thread: own("")})
	p.follow(t, comes(graph()[6]))
	wantKeys := p.want.arrive("!r:s", "$w")
	keys := p.m.Arrive(p.v, own("!r:s"), own("$w"))
	for _, b := range handed {
		for i := range b {
			b[i] = '?'
		}
	}
	if k != wantKey || at != (api.Position{Depth: 1, ID: "$b"}) {
		t.Errorf("%+v, %+v", k, at)
	}
	if fault := parts(keys, wantKeys); fault != "" || len(keys) == 0 {
		t.Error(fault, keys)
	}
	if fault := p.wrong(); fault != "" {
		t.Error(fault)
	}
}

// TestNoTextIsShared between two answers, or an answer and what was handed in.
func TestNoTextIsShared(t *testing.T) {
	known := map[*byte]string{} // the addresses hold on to the texts, so that no memory is used again
	note := func(called string, texts ...string) {
		t.Helper()
		for _, s := range texts {
			if s == "" {
				continue
			}
			at := unsafe.StringData(s)
			if first, is := known[at]; is {
				t.Fatalf("%s and %s share the text %q", called, first, s)
			}
			known[at] = called
		}
	}
	noteKeys := func(called string, keys ...receipt.Key) {
		t.Helper()
		for _, k := range keys {
			note(called, k.Room, k.User, k.Thread)
		}
	}
	noteEdus := func(called string, edus ...api.Edu) {
		t.Helper()
		for _, e := range edus {
			note(called, e.Room, e.User, e.Event, e.Thread)
		}
	}
	noteMarks := func(called string, list ...receipt.Mark) {
		t.Helper()
		for _, m := range list {
			noteKeys(called, m.Key)
			note(called, m.At.ID)
		}
	}
	p := pairOf(4, graph()[:6]...)
	for _, e := range append(some(t).want.edus, notice("@a:s", "$b", ""), private(notice("@a:s", "$c", "main")), notice("@a:s", "$x", "$b")) {
		e = renewed(e, strings.Clone)
		noteEdus("what is handed in", e)
		noteKeys("Of", marks.Of(e), marks.Of(e))
		p.m.Put(p.v, e)
	}
	for range 2 {
		noteMarks("All", p.m.All()...)
		noteMarks("Public", p.m.Public()...)
		noteEdus("Waits", p.m.Waits()...)
		at, _ := p.m.Get(key("!r:s", "@a:s", ""))
		note("Get", at.ID)
	}
	p.v.Add(graph()[6])
	noteKeys("Arrive", p.m.Arrive(p.v, "!r:s", "$w")...)
	noteMarks("All behind Arrive", p.m.All()...)
}
