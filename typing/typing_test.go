package typing_test

import (
	"fmt"
	"math"
	"math/rand"
	"slices"
	"strings"
	"testing"
	"unsafe"

	"concourse/api"
	"concourse/edu"
	"concourse/typing"
)

// on is an EDU of who types in a room from a tick on, for so many.
func on(room, user string, span, tick, stamp int) api.Edu {
	return api.Edu{Kind: api.Typing, Room: room, User: user, On: true, Span: span, Tick: tick, Stamp: stamp}
}

// off is an EDU of who types no more.
func off(room, user string, tick, stamp int) api.Edu {
	return api.Edu{Kind: api.Typing, Room: room, User: user, Tick: tick, Stamp: stamp}
}

// bytesRow is how texts stand byte by byte: -1, 0 or 1.
func bytesRow(a, b string) int { return slices.Compare([]byte(a), []byte(b)) }

// numberBytes are a number's, by chapter 2's words: seven bits each, the least ones first.
func numberBytes(n int) []byte {
	var b []byte
	for ; n >= 128; n /= 128 {
		b = append(b, byte(n%128+128))
	}
	return append(b, byte(n))
}

// telling is those of an EDU's bytes in which two of one key and one Stamp may part.
func telling(e api.Edu) []byte {
	flag := byte(0)
	if e.On {
		flag = 1
	}
	b := append([]byte{flag}, numberBytes(e.Span)...)
	return append(append(b, numberBytes(e.State)...), numberBytes(e.Tick)...)
}

// isLater tells whether an EDU is later than another one of its room and user, by chapter 3's words.
func isLater(a, b api.Edu) bool {
	if a.Stamp != b.Stamp {
		return a.Stamp > b.Stamp
	}
	return slices.Compare(telling(a), telling(b)) > 0
}

// kept is a latest EDU, and whether an Ended has told of it since it was put.
type kept struct {
	e    api.Edu
	told bool
}

func (k kept) end() int { return k.e.Tick + k.e.Span }

// model is a table by the chapter's words: a plain list, gone through by hand whenever something is asked.
type model []kept

func (m *model) put(e api.Edu) (bool, api.Errno) {
	if e.Kind != 2 || !edu.May(e) {
		return false, api.ErrArg
	}
	for i, k := range *m {
		if k.e.Room == e.Room && k.e.User == e.User {
			if !isLater(e, k.e) {
				return false, api.OK
			}
			(*m)[i] = kept{e: e}
			return true, api.OK
		}
	}
	*m = append(*m, kept{e: e})
	return true, api.OK
}

func (m *model) types(room, user string, at int) bool {
	for _, k := range *m {
		if k.e.Room == room && k.e.User == user {
			return k.e.On && at < k.end()
		}
	}
	return false
}

func (m *model) users(room string, at int) []string {
	var users []string
	for _, k := range *m {
		if k.e.Room == room && m.types(room, k.e.User, at) {
			users = append(users, k.e.User)
		}
	}
	slices.SortFunc(users, bytesRow)
	return users
}

func (m *model) ended(at int) []string {
	var rooms []string
	for i, k := range *m {
		if k.e.On && !k.told && k.end() <= at {
			(*m)[i].told = true
			if !slices.Contains(rooms, k.e.Room) {
				rooms = append(rooms, k.e.Room)
			}
		}
	}
	slices.SortFunc(rooms, bytesRow)
	return rooms
}

func (m *model) next() (int, bool) {
	least, is := 0, false
	for _, k := range *m {
		if k.e.On && !k.told && (!is || k.end() < least) {
			least, is = k.end(), true
		}
	}
	return least, is
}

func (m *model) all() []api.Edu {
	var all []api.Edu
	for _, k := range *m {
		all = append(all, k.e)
	}
	slices.SortFunc(all, func(a, b api.Edu) int {
		if row := bytesRow(a.Room, b.Room); row != 0 {
			return row
		}
		return bytesRow(a.User, b.User)
	})
	return all
}

// parts tells where two rows part first.
func parts[T comparable](got, want []T) string {
	for i := range min(len(got), len(want)) {
		if got[i] != want[i] {
			return fmt.Sprintf("%d of %d is %+v, want %+v", i, len(got), got[i], want[i])
		}
	}
	if len(got) != len(want) {
		return fmt.Sprintf("%d, want %d: %+v", len(got), len(want), got)
	}
	return ""
}

// ticks are those just at each end, just ahead of it and just behind it, and some that are far away.
func (m *model) ticks() []int {
	ticks := []int{math.MinInt, -1, 0, math.MaxInt}
	for _, k := range *m {
		ticks = append(ticks, k.end()-1, k.end(), k.end()+1, k.e.Tick)
	}
	return ticks
}

// wrong tells what a table answers otherwise than its model does, asked of all that changes nothing.
func wrong(table *typing.Table, m *model) string {
	all := m.all()
	if fault := parts(table.All(), all); fault != "" {
		return "All: " + fault
	}
	want, wantIs := m.next()
	if got, is := table.Next(); got != want || is != wantIs {
		return fmt.Sprintf("Next is %d, %v, want %d, %v", got, is, want, wantIs)
	}
	for _, at := range m.ticks() {
		for _, e := range append(all, off("!none:s", "@none:s", 0, 0)) {
			if got, want := table.Types(e.Room, e.User, at), m.types(e.Room, e.User, at); got != want {
				return fmt.Sprintf("Types(%q, %q, %d) is %v", e.Room, e.User, at, got)
			}
			if fault := parts(table.Users(e.Room, at), m.users(e.Room, at)); fault != "" {
				return fmt.Sprintf("Users(%q, %d): %s", e.Room, at, fault)
			}
		}
	}
	return ""
}

// pair is a table and its model.
type pair struct {
	table *typing.Table
	want  *model
}

func newPair() pair { return pair{typing.New(), &model{}} }

// pairOf is one in which these have been put.
func pairOf(t testing.TB, edus ...api.Edu) pair {
	t.Helper()
	p := newPair()
	p.follow(t, puts(edus...)...)
	return p
}

// step is one call that changes a table: Put, or Ended.
type step struct {
	e    api.Edu
	ends bool
	at   int
}

func put(e api.Edu) step     { return step{e: e} }
func ended(at int) step      { return step{ends: true, at: at} }
func (p pair) wrong() string { return wrong(p.table, p.want) }

func (s step) String() string {
	if s.ends {
		return fmt.Sprintf("Ended(%d)", s.at)
	}
	return fmt.Sprintf("Put(%+v)", s.e)
}

// puts is so many steps, in which these are put.
func puts(edus ...api.Edu) []step {
	var steps []step
	for _, e := range edus {
		steps = append(steps, put(e))
	}
	return steps
}

// call takes a step of both, and tells what they answer otherwise.
func (s step) call(p pair) string {
	if s.ends {
		return parts(p.table.Ended(s.at), p.want.ended(s.at))
	}
	want, wantErrno := p.want.put(s.e)
	if is, errno := p.table.Put(s.e); is != want || errno != wantErrno {
		return fmt.Sprintf("%v, %v, want %v, %v", is, errno, want, wantErrno)
	}
	return ""
}

// do takes a step of both, and tells what they answer otherwise, then or behind it.
func (s step) do(p pair) string {
	if fault := s.call(p); fault != "" {
		return fault
	}
	return p.wrong()
}

// follow takes the steps, one behind the other.
func (p pair) follow(t testing.TB, steps ...step) {
	t.Helper()
	for i, s := range steps {
		if fault := s.do(p); fault != "" {
			t.Fatalf("step %d of %v: %s", i, steps, fault)
		}
	}
}

func checkPut(t testing.TB, p pair, e api.Edu, want bool, wantErrno api.Errno) {
	t.Helper()
	if is, errno := p.table.Put(e); is != want || errno != wantErrno {
		t.Fatalf("Put(%+v) is %v, %v, want %v, %v", e, is, errno, want, wantErrno)
	}
}

func checkTypes(t testing.TB, p pair, room, user string, at int, want bool) {
	t.Helper()
	if got := p.table.Types(room, user, at); got != want {
		t.Fatalf("Types(%q, %q, %d) is %v", room, user, at, got)
	}
}

func checkUsers(t testing.TB, p pair, room string, at int, want ...string) {
	t.Helper()
	if fault := parts(p.table.Users(room, at), want); fault != "" {
		t.Fatalf("Users(%q, %d): %s", room, at, fault)
	}
}

func checkEnded(t testing.TB, p pair, at int, want ...string) {
	t.Helper()
	if fault := parts(p.table.Ended(at), want); fault != "" {
		t.Fatalf("Ended(%d): %s", at, fault)
	}
}

func checkNext(t testing.TB, p pair, want int) {
	t.Helper()
	if got, is := p.table.Next(); got != want || !is {
		t.Fatalf("Next is %d, %v, want %d", got, is, want)
	}
}

func checkNoNext(t testing.TB, p pair) {
	t.Helper()
	if got, is := p.table.Next(); got != 0 || is {
		t.Fatalf("Next is %d, %v", got, is)
	}
}

func checkAll(t testing.TB, p pair, want ...api.Edu) {
	t.Helper()
	if fault := parts(p.table.All(), want); fault != "" {
		t.Fatalf("All: %s", fault)
	}
}

// numbers are such as edges are made of.
func numbers() []int {
	return []int{math.MinInt, math.MinInt32, -1000, -1, 0, 1, 2, 3, 59, 60, 61, 127, 128, math.MaxInt32, 1 << 32, 1<<40 - 1, 1 << 40, 1<<40 + 1, math.MaxInt}
}

// texts are any.
func texts() []string {
	return []string{"", "\x00", " ", "!r:s", "!r:s ", " !r:s", "!r:s @a:s", "!r", "!R:s", "!r:s\x00", "@a:s", "@a:s ", "@", "@a", "$a", "main", "\xff", "é", "!aaaaaaaaaaaaaaaaa:s", "@aaaaaaaaaaaaaaaaa:s", strings.Repeat("a", 1000)}
}

// P14.1

func TestNewIsWithoutEdus(t *testing.T) {
	p := newPair()
	for _, at := range numbers() {
		for _, room := range texts() {
			for _, user := range texts() {
				checkTypes(t, p, room, user, at, false)
			}
			checkUsers(t, p, room, at)
		}
		checkEnded(t, p, at)
		checkNoNext(t, p)
	}
	checkAll(t, p)
}

// TestLaterOnes, by hand: each is later than the one ahead of it.
func TestLaterOnes(t *testing.T) {
	row := []api.Edu{
		off("!r:s", "@a:s", 0, 0),
		off("!r:s", "@a:s", 1, 0),
		off("!r:s", "@a:s", 127, 0),
		off("!r:s", "@a:s", 128, 0), // 128 1
		off("!r:s", "@a:s", 256, 0), // 128 2
		off("!r:s", "@a:s", 129, 0), // 129 1
		off("!r:s", "@a:s", 255, 0), // 255 1
		on("!r:s", "@a:s", 1, 0, 0),
		on("!r:s", "@a:s", 1, 256, 0),
		on("!r:s", "@a:s", 1, 255, 0),
		on("!r:s", "@a:s", 2, 0, 0),
		on("!r:s", "@a:s", 60, 0, 0),
		off("!r:s", "@a:s", 0, 1),
		on("!r:s", "@a:s", 1, 0, 1),
		on("!r:s", "@a:s", 60, 1<<40, 1),
		off("!r:s", "@a:s", 0, 127),
		off("!r:s", "@a:s", 0, 128),
		off("!r:s", "@a:s", 0, 129),
		off("!r:s", "@a:s", 0, 255),
		off("!r:s", "@a:s", 0, 256), // by the number of the Stamp, not by its bytes
		off("!r:s", "@a:s", 0, 1<<40),
		on("!r:s", "@a:s", 1, 0, 1<<40),
	}
	for i, a := range row {
		for j, b := range row {
			p := newPair()
			checkPut(t, p, a, true, api.OK)
			checkPut(t, p, b, j > i, api.OK)
			checkAll(t, p, row[max(i, j)])
			checkPut(t, p, a, false, api.OK)
			checkPut(t, p, b, false, api.OK)
			checkAll(t, p, row[max(i, j)])
		}
	}
}

// TestPairs: each two EDUs of chosen edges of the fields, of one key, held against the model.
func TestPairs(t *testing.T) {
	var edus []api.Edu
	for _, tick := range []int{0, 1, 59, 127, 128, 255, 256, 1<<40 - 1, 1 << 40} {
		for _, stamp := range []int{0, 1, 128, 1 << 40} {
			edus = append(edus, off("!r:s", "@a:s", tick, stamp))
			for _, span := range []int{1, 2, 59, 60} {
				edus = append(edus, on("!r:s", "@a:s", span, tick, stamp))
			}
		}
	}
	for _, a := range edus {
		for _, b := range edus {
			p := newPair()
			for _, s := range []step{put(a), put(b), put(a)} {
				if fault := s.do(p); fault != "" {
					t.Fatalf("%v, %v: at %v: %s", a, b, s, fault)
				}
			}
		}
	}
}

// refused is EDUs that may not be put, made of ones that may by one change.
func refused() []api.Edu {
	var all []api.Edu
	add := func(change func(e *api.Edu)) {
		for _, e := range []api.Edu{on("!r:s", "@a:s", 5, 10, 9), off("!r:s", "@a:s", 10, 9)} {
			change(&e)
			all = append(all, e)
		}
	}
	for _, s := range texts() {
		if s != "!r:s" {
			add(func(e *api.Edu) { e.Room = s })
		}
		if s != "@a:s" {
			add(func(e *api.Edu) { e.User = s })
		}
		if s != "" {
			add(func(e *api.Edu) { e.Event = s })
			add(func(e *api.Edu) { e.Thread = s })
		}
	}
	for _, n := range numbers() {
		if n != 2 {
			add(func(e *api.Edu) { e.Kind = n })
		}
		if n != 0 {
			add(func(e *api.Edu) { e.State = n })
			add(func(e *api.Edu) { e.On, e.Span = false, n })
		}
		if n < 1 || n > 60 {
			add(func(e *api.Edu) { e.On, e.Span = true, n })
		}
		if n < 0 || n > 1<<40 {
			add(func(e *api.Edu) { e.Tick = n })
			add(func(e *api.Edu) { e.Stamp = n })
		}
	}
	add(func(e *api.Edu) { e.Private = true })
	add(func(e *api.Edu) { e.Room, e.User = e.User, e.Room })
	return append(all,
		api.Edu{},
		api.Edu{Kind: api.Typing},
		api.Edu{Kind: api.Presence, User: "@a:s", Stamp: 9},
		api.Edu{Kind: api.Presence, User: "@a:s", State: api.Online, Stamp: 9},
		api.Edu{Kind: api.Receipt, Room: "!r:s", User: "@a:s", Event: "$a", Stamp: 9},
		api.Edu{Kind: api.Receipt, Room: "!r:s", User: "@a:s", Event: "$a", Private: true, Stamp: 9},
	)
}

// TestEdusThatMayNotBePut: ErrArg, and nothing is changed, be there one of that key or not.
func TestEdusThatMayNotBePut(t *testing.T) {
	for _, p := range []pair{newPair(), pairOf(t, on("!r:s", "@a:s", 5, 10, 8)), pairOf(t, off("!r:s", "@a:s", 10, 8), on("!q:s", "@a:s", 3, 0, 0))} {
		for _, e := range refused() {
			checkPut(t, p, e, false, api.ErrArg)
			if fault := p.wrong(); fault != "" {
				t.Fatalf("behind %+v: %s", e, fault)
			}
		}
		p.follow(t, ended(1<<41))
	}
}

// TestEdusThatMayBePut, at the edges of each field: as they came they are told.
func TestEdusThatMayBePut(t *testing.T) {
	for _, room := range []string{"!r:s", "!a.-_9:0.-z", "!" + strings.Repeat("a", 16) + ":" + strings.Repeat("b", 16)} {
		for _, user := range []string{"@a:s", "@.:s", "@" + strings.Repeat("_", 16) + ":" + strings.Repeat("0", 16)} {
			for _, n := range []int{0, 1, 60, 1<<40 - 1, 1 << 40} {
				for _, m := range []int{0, 1, 60, 1<<40 - 1, 1 << 40} {
					for span := range 61 {
						e := on(room, user, span, n, m)
						e.On = span > 0
						p := newPair()
						checkPut(t, p, e, true, api.OK)
						checkAll(t, p, e)
						checkTypes(t, p, room, user, n+span-1, e.On)
						checkTypes(t, p, room, user, n+span, false)
					}
				}
			}
		}
	}
}

// TestEachRoomAndUserHasOne: what is put of one leaves the others as they are.
func TestEachRoomAndUserHasOne(t *testing.T) {
	p := newPair()
	var want []api.Edu
	for i, room := range rooms() {
		for j, user := range users() {
			want = append(want, on(room, user, 1+i, j, i*j))
		}
	}
	for _, i := range rand.New(rand.NewSource(4)).Perm(len(want)) {
		checkPut(t, p, want[i], true, api.OK)
	}
	checkAll(t, p, want...)
	for i := range want {
		want[i].Stamp++
		checkPut(t, p, want[i], true, api.OK)
		checkAll(t, p, want...)
		want[i] = off(want[i].Room, want[i].User, 0, want[i].Stamp+1)
		checkPut(t, p, want[i], true, api.OK)
		checkPut(t, p, want[i], false, api.OK)
		checkAll(t, p, want...)
	}
}

// rooms are some, rising byte by byte: several begin as others do, or have bytes beside the colon.
func rooms() []string {
	return []string{"!-:s", "!-a:s", "!.:s", "!0:s", "!_:s", "!a-:s", "!a.:s", "!a0:s", "!a:a", "!a:aa", "!a:s", "!a:s.s", "!a:ss", "!a_:s", "!aa:s", "!b:s"}
}

// users are some, rising byte by byte.
func users() []string {
	return []string{"@-:s", "@.:s", "@0:s", "@_:s", "@a-:s", "@a:a", "@a:s", "@a:s.s", "@a:ss", "@a_:s", "@aa:s", "@b:s"}
}

// P14.2

func TestExample(t *testing.T) {
	p := pairOf(t, on("!r:s", "@a:s", 5, 10, 0))
	checkTypes(t, p, "!r:s", "@a:s", 14, true)
	checkTypes(t, p, "!r:s", "@a:s", 15, false)
}

// TestTypesUpToTheEnd: from any tick on, those ahead of the EDU's own among them, up to the one ahead of its end.
func TestTypesUpToTheEnd(t *testing.T) {
	for _, tick := range []int{0, 1, 10, 1<<40 - 1, 1 << 40} {
		for span := 1; span <= 60; span++ {
			p := pairOf(t, on("!r:s", "@a:s", span, tick, 0))
			for at := tick - 70; at < tick+140; at++ {
				checkTypes(t, p, "!r:s", "@a:s", at, at < tick+span)
			}
			for _, at := range numbers() {
				checkTypes(t, p, "!r:s", "@a:s", at, at < tick+span)
			}
		}
	}
}

func TestWhoIsNotOnTypesAtNoTick(t *testing.T) {
	for _, tick := range []int{0, 1, 60, 1 << 40} {
		for _, p := range []pair{pairOf(t, off("!r:s", "@a:s", tick, 1)), pairOf(t, on("!r:s", "@a:s", 60, tick, 0), off("!r:s", "@a:s", tick, 1))} {
			for _, at := range append(numbers(), tick-1, tick, tick+1) {
				checkTypes(t, p, "!r:s", "@a:s", at, false)
				checkUsers(t, p, "!r:s", at)
			}
		}
	}
}

// TestTheLatestOneCounts, be its end ahead of the other one's or behind it.
func TestTheLatestOneCounts(t *testing.T) {
	p := newPair()
	p.follow(t, puts(on("!r:s", "@a:s", 60, 100, 1), on("!r:s", "@a:s", 1, 10, 2))...)
	checkTypes(t, p, "!r:s", "@a:s", 10, true)
	checkTypes(t, p, "!r:s", "@a:s", 11, false)
	p.follow(t, put(on("!r:s", "@a:s", 9, 90, 1)))
	checkTypes(t, p, "!r:s", "@a:s", 11, false)
	p.follow(t, put(off("!r:s", "@a:s", 50, 3)))
	checkTypes(t, p, "!r:s", "@a:s", 0, false)
	p.follow(t, put(on("!r:s", "@a:s", 3, 0, 4)))
	checkTypes(t, p, "!r:s", "@a:s", 2, true)
	checkTypes(t, p, "!r:s", "@a:s", 3, false)
}

// TestTextsThatAreOfNone: of any texts that have no EDU nobody types.
func TestTextsThatAreOfNone(t *testing.T) {
	p := pairOf(t, on("!r:s", "@a:s", 5, 10, 1))
	for _, room := range texts() {
		for _, user := range texts() {
			checkTypes(t, p, room, user, 14, room == "!r:s" && user == "@a:s")
		}
		if room != "!r:s" {
			checkUsers(t, p, room, 14)
		}
	}
	checkUsers(t, p, "!r:s", 14, "@a:s")
}

// TestUsersOfARoomAlone, rising: who types elsewhere, or typed ahead of the tick, is not told.
func TestUsersOfARoomAlone(t *testing.T) {
	p := newPair()
	random := rand.New(rand.NewSource(5))
	for i, room := range rooms() {
		for _, j := range random.Perm(len(users())) {
			if (i+j)%4 != 0 {
				checkPut(t, p, on(room, users()[j], 1+j, i, 0), true, api.OK)
			}
		}
	}
	for i, room := range rooms() {
		for at := -1; at < 40; at++ {
			var want []string
			for j, user := range users() {
				if (i+j)%4 != 0 && at < i+1+j {
					want = append(want, user)
				}
			}
			checkUsers(t, p, room, at, want...)
		}
	}
	checkUsers(t, p, "!none:s", 0)
}

// P14.3

// TestEndedAtTheEnd: not ahead of it, and once.
func TestEndedAtTheEnd(t *testing.T) {
	for _, tick := range []int{0, 1, 10, 1<<40 - 1, 1 << 40} {
		for _, span := range []int{1, 2, 5, 59, 60} {
			end := tick + span
			for _, at := range append(numbers(), end, end+1) {
				p := pairOf(t, on("!r:s", "@a:s", span, tick, 0))
				checkNext(t, p, end)
				if at < end {
					checkEnded(t, p, at)
					checkNext(t, p, end)
				}
				checkEnded(t, p, end-1)
				checkNext(t, p, end)
				checkEnded(t, p, max(at, end), "!r:s")
				checkNoNext(t, p)
				checkEnded(t, p, max(at, end))
				checkEnded(t, p, math.MaxInt)
			}
		}
	}
}

func TestEndedTellsNoneThatIsNotOn(t *testing.T) {
	p := pairOf(t, off("!r:s", "@a:s", 0, 0), off("!q:s", "@a:s", 7, 0))
	checkNoNext(t, p)
	checkEnded(t, p, math.MaxInt)
	p.follow(t, put(on("!r:s", "@a:s", 5, 10, 1)), put(off("!r:s", "@a:s", 11, 2)))
	checkNoNext(t, p)
	checkEnded(t, p, math.MaxInt)
}

// TestEndedTellsARoomOnce, though several ends are over there, and again when others are.
func TestEndedTellsARoomOnce(t *testing.T) {
	p := pairOf(t, on("!r:s", "@a:s", 5, 0, 0), on("!r:s", "@b:s", 5, 0, 0), on("!r:s", "@c:s", 3, 0, 0), on("!r:s", "@d:s", 9, 0, 0), on("!a:s", "@a:s", 5, 0, 0), on("!z:s", "@a:s", 1, 0, 0), on("!y:s", "@a:s", 6, 0, 0))
	checkNext(t, p, 1)
	checkEnded(t, p, 5, "!a:s", "!r:s", "!z:s")
	checkNext(t, p, 6)
	checkEnded(t, p, 5)
	checkEnded(t, p, 8, "!y:s")
	checkNext(t, p, 9)
	checkEnded(t, p, 9, "!r:s")
	checkNoNext(t, p)
	checkEnded(t, p, 100)
}

// TestEndedIsRising, whatever the ends' row, and each room once.
func TestEndedIsRising(t *testing.T) {
	random := rand.New(rand.NewSource(6))
	for range 50 {
		p := newPair()
		for _, i := range random.Perm(len(rooms())) {
			for _, j := range random.Perm(3) {
				checkPut(t, p, on(rooms()[i], users()[random.Intn(4)*3+j], 1+random.Intn(60), random.Intn(100), 0), true, api.OK)
			}
		}
		checkEnded(t, p, 200, rooms()...)
		checkEnded(t, p, 200)
	}
}

// TestEndedTellsNotAgain: what is not later, and so not put, changes nothing.
func TestEndedTellsNotAgain(t *testing.T) {
	p := pairOf(t, on("!r:s", "@a:s", 5, 10, 3))
	checkEnded(t, p, 15, "!r:s")
	for _, e := range []api.Edu{on("!r:s", "@a:s", 5, 10, 3), on("!r:s", "@a:s", 60, 10, 2), on("!r:s", "@a:s", 4, 99, 3), off("!r:s", "@a:s", 16, 3)} {
		checkPut(t, p, e, false, api.OK)
		checkNoNext(t, p)
		checkEnded(t, p, math.MaxInt)
	}
}

// TestEndedTellsOfALaterOne, though one has been told of that key, and though its end is over already.
func TestEndedTellsOfALaterOne(t *testing.T) {
	p := pairOf(t, on("!r:s", "@a:s", 5, 10, 3))
	checkEnded(t, p, 15, "!r:s")
	for stamp := 4; stamp < 10; stamp++ {
		checkPut(t, p, on("!r:s", "@a:s", 5, 10-stamp, stamp), true, api.OK)
		checkNext(t, p, 15-stamp)
		checkTypes(t, p, "!r:s", "@a:s", 15, false)
		checkEnded(t, p, 14-stamp)
		checkEnded(t, p, 15, "!r:s")
		checkNoNext(t, p)
		checkEnded(t, p, 15)
	}
}

// TestEndedTellsOfTheLatestAlone: the end of one that is not the latest any more counts for nothing.
func TestEndedTellsOfTheLatestAlone(t *testing.T) {
	p := pairOf(t, on("!r:s", "@a:s", 5, 10, 1), on("!q:s", "@a:s", 60, 100, 1), on("!p:s", "@a:s", 3, 0, 1))
	p.follow(t, puts(on("!r:s", "@a:s", 20, 10, 2), on("!q:s", "@a:s", 1, 1, 2), off("!p:s", "@a:s", 0, 2))...)
	checkNext(t, p, 2)
	checkEnded(t, p, 29, "!q:s")
	checkNext(t, p, 30)
	checkEnded(t, p, 30, "!r:s")
	checkEnded(t, p, math.MaxInt)
	checkNoNext(t, p)
}

// TestEndsAtNegativeTicks: there are none, as ticks are from 0 on.
func TestEndsAtNegativeTicks(t *testing.T) {
	p := pairOf(t, on("!r:s", "@a:s", 1, 0, 0))
	for _, at := range []int{math.MinInt, -1, 0} {
		checkEnded(t, p, at)
		checkNext(t, p, 1)
	}
	checkEnded(t, p, 1, "!r:s")
}

// TestEndedLeavesWhoTypes: behind it the same ones type as ahead of it, at each tick, and the EDUs are there.
func TestEndedLeavesWhoTypes(t *testing.T) {
	p := pairOf(t, on("!r:s", "@a:s", 5, 10, 1), on("!r:s", "@b:s", 9, 10, 1), off("!q:s", "@a:s", 0, 0))
	for _, at := range []int{15, 19, 1 << 50} {
		p.follow(t, ended(at))
		checkTypes(t, p, "!r:s", "@a:s", 14, true)
		checkUsers(t, p, "!r:s", 14, "@a:s", "@b:s")
		checkUsers(t, p, "!r:s", 18, "@b:s")
		if len(p.table.All()) != 3 {
			t.Fatal(p.table.All())
		}
	}
}

// TestManyEnds, told tick by tick, each at its own, and Next always the tick of the next ones.
func TestManyEnds(t *testing.T) {
	random := rand.New(rand.NewSource(7))
	p := newPair()
	for i := range 400 {
		e := on(fmt.Sprintf("!r%d:s", random.Intn(40)), fmt.Sprintf("@a%d:s", i), 1+random.Intn(60), random.Intn(200), 0)
		checkPut(t, p, e, true, api.OK)
		p.want.put(e)
	}
	for at := -3; at < 263; at++ {
		want, wantIs := p.want.next()
		if got, is := p.table.Next(); got != want || is != wantIs || is && got < at {
			t.Fatalf("at %d: Next is %d, %v, want %d, %v", at, got, is, want, wantIs)
		}
		checkEnded(t, p, at, p.want.ended(at)...)
	}
	checkNoNext(t, p)
}

// P14.4

// eachRow tells each row of the numbers below n.
func eachRow(n int, tell func(row []int)) {
	row := make([]int, n)
	for i := range row {
		row[i] = i
	}
	var turn func(from int)
	turn = func(from int) {
		if from == n {
			tell(row)
			return
		}
		for i := from; i < n; i++ {
			row[from], row[i] = row[i], row[from]
			turn(from + 1)
			row[from], row[i] = row[i], row[from]
		}
	}
	turn(0)
}

// same tells what two tables answer otherwise of who types, at all these ticks.
func same(a, b *typing.Table, ticks []int) string {
	all := a.All()
	if fault := parts(all, b.All()); fault != "" {
		return "All: " + fault
	}
	for _, e := range all {
		for _, at := range ticks {
			if fault := parts(a.Users(e.Room, at), b.Users(e.Room, at)); fault != "" {
				return fmt.Sprintf("Users(%q, %d): %s", e.Room, at, fault)
			}
			if a.Types(e.Room, e.User, at) != b.Types(e.Room, e.User, at) {
				return fmt.Sprintf("Types(%q, %q, %d)", e.Room, e.User, at)
			}
		}
	}
	return ""
}

// TestInWhateverRow: seven EDUs, of which four are of one key and two of these of one Stamp, in each row, and each row twice, told of ends between.
func TestInWhateverRow(t *testing.T) {
	edus := []api.Edu{
		on("!r:s", "@a:s", 5, 10, 1), off("!r:s", "@a:s", 11, 2), on("!r:s", "@a:s", 7, 9, 3), on("!r:s", "@a:s", 6, 12, 3),
		on("!r:s", "@b:s", 3, 10, 1), on("!q:s", "@b:s", 3, 11, 1), off("!q:s", "@b:s", 13, 1),
	}
	first := pairOf(t, edus...)
	checkAll(t, first, on("!q:s", "@b:s", 3, 11, 1), on("!r:s", "@a:s", 7, 9, 3), on("!r:s", "@b:s", 3, 10, 1))
	ticks := first.want.ticks()
	eachRow(len(edus), func(row []int) {
		other := typing.New()
		for _, i := range append(slices.Clone(row), row...) {
			other.Put(edus[i])
			other.Ended(8 + i)
		}
		if fault := same(first.table, other, ticks); fault != "" {
			t.Fatalf("%v: %s", row, fault)
		}
	})
}

// TestWhereOnesOfOneStampStand: of all EDUs of one Stamp that part in one field or more the same one stays, in each row.
func TestWhereOnesOfOneStampStand(t *testing.T) {
	edus := []api.Edu{off("!r:s", "@a:s", 300, 5), off("!r:s", "@a:s", 255, 5), on("!r:s", "@a:s", 2, 256, 5), on("!r:s", "@a:s", 2, 255, 5), on("!r:s", "@a:s", 1, 1<<40, 5)}
	eachRow(len(edus), func(row []int) {
		p := newPair()
		for _, i := range row {
			p.follow(t, put(edus[i]))
		}
		checkAll(t, p, on("!r:s", "@a:s", 2, 255, 5))
		checkNext(t, p, 257)
	})
}

// TestOnceAllEndsAreOver none types, in whatever row the EDUs came.
func TestOnceAllEndsAreOver(t *testing.T) {
	random := rand.New(rand.NewSource(8))
	for range 60 {
		p, last := newPair(), 0
		for range random.Intn(60) {
			e := randomEdu(random)
			p.table.Put(e)
			last = max(last, e.Tick+e.Span)
		}
		for _, e := range p.table.All() {
			for _, at := range []int{last, last + 1, 1 << 50, math.MaxInt} {
				checkTypes(t, p, e.Room, e.User, at, false)
				checkUsers(t, p, e.Room, at)
			}
		}
		p.table.Ended(last)
		checkNoNext(t, p)
	}
}

// TestAllRowsOfSteps, held against the model behind each step: few EDUs of two keys, and ends that are told.
func TestAllRowsOfSteps(t *testing.T) {
	steps := []step{
		put(on("!r:s", "@a:s", 5, 0, 1)), put(on("!r:s", "@a:s", 3, 0, 2)), put(off("!r:s", "@a:s", 4, 2)), put(off("!r:s", "@a:s", 4, 3)),
		put(on("!r:s", "@b:s", 4, 0, 1)), put(on("!q:s", "@a:s", 3, 1, 1)), put(on("!q:s", "@a:s", 61, 1, 9)), ended(3), ended(4), ended(5),
	}
	row := make([]step, 5)
	var choose func(at int)
	choose = func(at int) {
		if at < len(row) {
			for _, s := range steps {
				row[at] = s
				choose(at + 1)
			}
			return
		}
		p := newPair()
		for i, s := range row {
			if fault := s.call(p); fault != "" {
				t.Fatalf("step %d of %v: %s", i, row, fault)
			}
		}
		if fault := p.wrong(); fault != "" {
			t.Fatalf("behind %v: %s", row, fault)
		}
	}
	choose(0)
}

// randomEdu is one of few rooms and users.
func randomEdu(random *rand.Rand) api.Edu {
	room, user := rooms()[random.Intn(4)*4], users()[random.Intn(4)*3]
	if random.Intn(4) == 0 {
		return off(room, user, random.Intn(300), random.Intn(6))
	}
	return on(room, user, 1+random.Intn(60), random.Intn(300), random.Intn(6))
}

// TestRowsOfChance, held against the model behind each step.
func TestRowsOfChance(t *testing.T) {
	random := rand.New(rand.NewSource(1))
	for range 60 {
		p, at := newPair(), 0
		for range 80 {
			s := put(randomEdu(random))
			switch random.Intn(8) {
			case 0:
				at += random.Intn(40)
				s = ended(at)
			case 1:
				s = ended(random.Intn(400) - 20)
			case 2:
				s.e.Stamp = random.Intn(1 << 10)
			}
			if fault := s.do(p); fault != "" {
				t.Fatalf("%v: %s", s, fault)
			}
		}
	}
}

// TestHoweverOften: the same EDUs, once or more, in rows of chance, with ends told between or not, make the same ones type.
func TestHoweverOften(t *testing.T) {
	random := rand.New(rand.NewSource(2))
	for range 100 {
		var edus []api.Edu
		for range 1 + random.Intn(50) {
			edus = append(edus, randomEdu(random))
		}
		first := pairOf(t, edus[0])
		for _, e := range edus {
			first.table.Put(e)
			first.want.put(e)
		}
		other := typing.New()
		for _, i := range random.Perm(len(edus)) {
			other.Put(edus[random.Intn(len(edus))])
			other.Put(edus[i])
			if random.Intn(3) == 0 {
				other.Ended(random.Intn(400))
			}
		}
		if fault := same(first.table, other, first.want.ticks()); fault != "" {
			t.Fatalf("%v: %s", edus, fault)
		}
	}
}

// TestEachEndIsToldOnce: as time goes on, the room of each latest EDU is told at the first Ended behind its end, and at no other one.
func TestEachEndIsToldOnce(t *testing.T) {
	random := rand.New(rand.NewSource(3))
	for range 60 {
		p := newPair()
		for at := 0; at < 400; at += random.Intn(20) {
			for range random.Intn(6) {
				e := randomEdu(random)
				e.Tick, e.Stamp = at, at
				p.table.Put(e)
			}
			if next, is := p.table.Next(); is && next <= at {
				rooms := p.table.Ended(at)
				if len(rooms) == 0 {
					t.Fatalf("Ended(%d) tells none, Next was %d", at, next)
				}
			}
			if next, is := p.table.Next(); is && next <= at {
				t.Fatalf("at %d: Next is %d", at, next)
			}
			checkEnded(t, p, at)
		}
	}
}

// The rules of all layers

// some is a table with several EDUs: ones that are On, ones that are not, and ones of which has been told.
func some(t testing.TB) pair {
	p := pairOf(t, someEdus()...)
	p.follow(t, ended(12))
	return p
}

func someEdus() []api.Edu {
	return []api.Edu{
		on("!r:s", "@b:s", 5, 10, 3), on("!r:s", "@a:s", 20, 1, 1), on("!q:s", "@a:s", 15, 0, 1), on("!p:s", "@a:s", 2, 10, 1), on("!p:s", "@c:s", 3, 10, 1),
		off("!r:s", "@c:s", 50, 1), off("!q:s", "@b:s", 5, 1), on("!q:s", "@d:s", 5, 7, 2), on("!q:s", "@d:s", 9, 7, 3), on("!r:s", "@d:s", 5, 14, 2),
	}
}

func TestAskingChangesNothing(t *testing.T) {
	p := some(t)
	for range 20 {
		if fault := p.wrong(); fault != "" {
			t.Fatal(fault)
		}
		checkUsers(t, p, "!none:s", 0)
		checkTypes(t, p, "!none:s", "@a:s", 0, false)
		checkEnded(t, p, 12)
	}
	p.follow(t, ended(1<<41))
}

// TestTablesAreApart: what one of them is told others do not have.
func TestTablesAreApart(t *testing.T) {
	a, b, c := some(t), some(t), newPair()
	b.follow(t, put(on("!z:s", "@a:s", 1, 1, 1)), put(off("!r:s", "@b:s", 0, 9)), ended(100))
	for _, p := range []pair{a, b, c} {
		if fault := p.wrong(); fault != "" {
			t.Error(fault)
		}
	}
}

// spoil changes a list, and its spare room.
func spoil[T any](list []T, by T) {
	whole := list[:cap(list)]
	for i := range whole {
		whole[i] = by
	}
}

func TestAnswersMayBeChanged(t *testing.T) {
	p := some(t)
	for at := 10; at < 30; at++ {
		spoil(p.table.All(), on("!z:s", "@z:s", 60, 99, 99))
		spoil(p.table.Users("!r:s", at), "@z:s")
		spoil(p.table.Users("!none:s", at), "@z:s")
		p.want.ended(at)
		spoil(p.table.Ended(at), "!z:s")
		if fault := p.wrong(); fault != "" {
			t.Fatal(fault)
		}
	}
}

// TestWhatWasToldStays, whatever comes behind it.
func TestWhatWasToldStays(t *testing.T) {
	p := some(t)
	all, users, rooms := p.table.All(), p.table.Users("!r:s", 3), p.table.Ended(15)
	wantAll, wantUsers, wantRooms := slices.Clone(all), slices.Clone(users), slices.Clone(rooms)
	for i, e := range someEdus() {
		p.table.Put(off(e.Room, e.User, 0, 20+i))
		p.table.Put(on(e.Room, e.User, 60-i, 7, 40+i))
		p.table.Put(on("!0:s", e.User, 60-i, 7, 40+i))
		p.table.Ended(64)
	}
	if len(users) != 3 || len(rooms) != 3 || !slices.Equal(all, wantAll) || !slices.Equal(users, wantUsers) || !slices.Equal(rooms, wantRooms) {
		t.Errorf("%v, %v, %v", all, users, rooms)
	}
}

// checkSpare: a list's spare room holds nothing.
func checkSpare[T comparable](t testing.TB, list []T) {
	t.Helper()
	var none T
	for _, x := range list[len(list):cap(list)] {
		if x != none {
			t.Errorf("%+v", x)
		}
	}
}

func TestNothingIsInSpareRoom(t *testing.T) {
	p := some(t)
	for at := 10; at < 30; at++ {
		checkSpare(t, p.table.All())
		checkSpare(t, p.table.Users("!r:s", at))
		checkSpare(t, p.table.Ended(at))
	}
	for i := range 20 {
		p.table.Put(on("!r:s", fmt.Sprintf("@a%d:s", i), 1, 30, 30))
	}
	checkSpare(t, p.table.Ended(31))
}

// renewed is an EDU whose texts are made by a function, one by one.
func renewed(e api.Edu, text func(string) string) api.Edu {
	e.Room, e.User, e.Event, e.Thread = text(e.Room), text(e.User), text(e.Event), text(e.Thread)
	return e
}

// TestTextsHandedInMayBecomeOthers, behind whatever call.
func TestTextsHandedInMayBecomeOthers(t *testing.T) {
	var handed [][]byte
	own := func(s string) string {
		b := []byte(s + "\x00")
		handed = append(handed, b)
		return unsafe.String(&b[0], len(s))
	}
	p := newPair()
	for _, e := range someEdus() {
		p.want.put(e)
		p.table.Put(renewed(e, own))
		p.table.Put(renewed(e, own))
		checkTypes(t, p, own(e.Room), own(e.User), 0, e.On)
	}
	users := p.table.Users(own("!r:s"), 3)
	rooms := p.table.Ended(12)
	p.want.ended(12)
	for _, b := range handed {
		for i := range b {
			b[i] = '?'
		}
	}
	if !slices.Equal(users, []string{"@a:s", "@b:s", "@d:s"}) || !slices.Equal(rooms, []string{"!p:s"}) {
		t.Errorf("%q, %q", users, rooms)
	}
	if fault := p.wrong(); fault != "" {
		t.Error(fault)
	}
	p.follow(t, ended(1<<41))
}

// TestNoTextIsShared between two answers, or an answer and what was handed in.
func TestNoTextIsShared(t *testing.T) {
	known := map[*byte]string{} // the addresses hold on to the texts, so that no memory is used again
	note := func(called string, texts ...string) {
		t.Helper()
		for _, s := range texts {
			if s == "" {
				continue
			}
			at := unsafe.StringData(s)
			if first, is := known[at]; is {
				t.Fatalf("%s and %s share the text %q", called, first, s)
			}
			known[at] = called
		}
	}
	noteEdus := func(called string, edus ...api.Edu) {
		t.Helper()
		for _, e := range edus {
			note(called, e.Room, e.User, e.Event, e.Thread)
		}
	}
	p := newPair()
	for _, e := range someEdus() {
		e = renewed(e, strings.Clone)
		noteEdus("what is handed in", e)
		p.table.Put(e)
	}
	for at := 10; at < 30; at += 4 {
		noteEdus("All", p.table.All()...)
		note("Users", p.table.Users("!r:s", at)...)
		note("Users again", p.table.Users("!r:s", at)...)
		note("Ended", p.table.Ended(at)...)
	}
}
