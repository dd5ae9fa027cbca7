package view_test

import (
	"fmt"
	"math/rand"
	"slices"
	"strings"
	"testing"
	"unsafe"

	"concourse/api"
	"concourse/dag"
	"concourse/view"
)

// event is one that a user makes in a room, behind its Parents, which are sorted here.
func event(id, room, user string, does int, parents ...string) api.Event {
	return api.Event{ID: id, Room: room, User: user, Does: does, Parents: slices.Sorted(slices.Values(parents))}
}

func joins(id, room, user string, parents ...string) api.Event {
	return event(id, room, user, api.Joins, parents...)
}

func leaves(id, room, user string, parents ...string) api.Event {
	return event(id, room, user, api.Leaves, parents...)
}

func says(id, room, user string, parents ...string) api.Event {
	return event(id, room, user, api.Message, parents...)
}

// threaded is a message of a thread.
func threaded(id, room, user, thread string, parents ...string) api.Event {
	e := says(id, room, user, parents...)
	e.Thread = thread
	return e
}

// viewOf is a view of these events, each behind its Parents and its Thread.
func viewOf(t testing.TB, events ...api.Event) *view.View {
	t.Helper()
	v := view.New()
	for _, e := range events {
		if errno := v.Add(e); errno != api.OK {
			t.Fatalf("the test's own view: Add(%#v) = %v", e, errno)
		}
	}
	return v
}

// model is a view by the chapter's words: a plain list of all rooms' events as they came, gone through whenever something is asked.
type model []api.Event

// sorted is a list's texts, byte by byte, each once.
func sorted(l []string) []string {
	l = slices.Clone(l)
	slices.SortFunc(l, func(a, b string) int { return slices.Compare([]byte(a), []byte(b)) })
	return slices.Compact(l)
}

func (m model) event(room, id string) (api.Event, bool) {
	for _, e := range m {
		if e.Room == room && e.ID == id {
			return e, true
		}
	}
	return api.Event{}, false
}

func (m model) has(room, id string) bool {
	_, is := m.event(room, id)
	return is
}

// refusal is what Add is to tell.
func (m model) refusal(e api.Event) api.Errno {
	if !dag.May(e) {
		return api.ErrArg
	}
	if m.has(e.Room, e.ID) {
		return api.ErrTwice
	}
	for _, p := range e.Parents {
		if !m.has(e.Room, p) {
			return api.ErrUnknown
		}
	}
	if e.Thread != "" {
		first, is := m.event(e.Room, e.Thread)
		if !is {
			return api.ErrUnknown
		}
		if first.Thread != "" || first.Does != 0 {
			return api.ErrThread
		}
	}
	return api.OK
}

func (m model) rooms() []string {
	var rooms []string
	for _, e := range m {
		rooms = append(rooms, e.Room)
	}
	return sorted(rooms)
}

// positions are those of a room's events, by their IDs: each one's Parents came ahead of it.
func (m model) positions(room string) map[string]api.Position {
	at := map[string]api.Position{}
	for _, e := range m {
		if e.Room != room {
			continue
		}
		depth := 0
		for _, p := range e.Parents {
			depth = max(depth, at[p].Depth+1)
		}
		at[e.ID] = api.Position{Depth: depth, ID: e.ID}
	}
	return at
}

// events are a room's, by their positions.
func (m model) events(room string) []api.Event {
	at := m.positions(room)
	var events []api.Event
	for _, e := range m {
		if e.Room == room {
			events = append(events, e)
		}
	}
	slices.SortFunc(events, func(a, b api.Event) int {
		if at[a.ID].Depth != at[b.ID].Depth {
			return at[a.ID].Depth - at[b.ID].Depth
		}
		return slices.Compare([]byte(a.ID), []byte(b.ID))
	})
	return events
}

func (m model) heads(room string) []string {
	events := m.events(room)
	var heads []string
	for _, e := range events {
		if !slices.ContainsFunc(events, func(f api.Event) bool { return slices.Contains(f.Parents, e.ID) }) {
			heads = append(heads, e.ID)
		}
	}
	return heads
}

func (m model) fits(room, id, thread string) api.Errno {
	e, is := m.event(room, id)
	if !is {
		return api.ErrUnknown
	}
	var of []string // all threads that it is of
	of = append(of, "", e.ID)
	if e.Thread == "" {
		of = append(of, "main")
	} else {
		of = append(of, e.Thread)
	}
	if !slices.Contains(of, thread) {
		return api.ErrThread
	}
	return api.OK
}

// users are those whose last step in the room joins.
func (m model) users(room string) []string {
	last := map[string]int{}
	for _, e := range m.events(room) {
		if e.Does != api.Message {
			last[e.User] = e.Does
		}
	}
	var users []string
	for user, does := range last {
		if does == api.Joins {
			users = append(users, user)
		}
	}
	return sorted(users)
}

func (m model) joined(room, user string) bool { return slices.Contains(m.users(room), user) }

// servers are behind the colons of who is joined.
func (m model) servers(room string) []string {
	var servers []string
	for _, user := range m.users(room) {
		servers = append(servers, user[strings.Index(user, ":")+1:])
	}
	return sorted(servers)
}

func (m model) roomsOf(user string) []string {
	var rooms []string
	for _, room := range m.rooms() {
		if m.joined(room, user) {
			rooms = append(rooms, room)
		}
	}
	return rooms
}

func (m model) peers(user string) []string {
	var peers []string
	for _, room := range m.roomsOf(user) {
		peers = append(peers, m.servers(room)...)
	}
	return sorted(peers)
}

func (m model) friends(a, b string) bool {
	for _, room := range m.rooms() {
		if m.joined(room, a) && m.joined(room, b) {
			return true
		}
	}
	return false
}

func show(e api.Event) string {
	return fmt.Sprintf("%q %q %q %q %q %d", e.ID, e.Room, e.Parents, e.Thread, e.User, e.Does)
}

func showAll(l []api.Event) string {
	var lines []string
	for _, e := range l {
		lines = append(lines, show(e))
	}
	return strings.Join(lines, "\n")
}

// strangers are texts that are no room's, user's, server's, event's or thread's, or none's that there is, beside those of the tests.
func strangers() []string {
	return []string{"", "main", "Main", "main ", "@", "!", "$", ":", "s", "t", "u", "!none:s", "@none:s", "none", "$none", "@a", "@a:", "@:s",
		"!r", "!r:", "r:s", "@r:s", "!a:s", "!r:s ", "!r:s\x00", "@a:s.", "@A:s", "$a ", "$a\x00", "\xff", strings.Repeat("a", 40)}
}

// asked is what a view is asked about.
type asked struct{ rooms, users, servers, ids []string }

// about is all that is in these events, and some texts more for each.
func about(events []api.Event, more ...string) asked {
	a := asked{rooms: more, users: more, servers: more, ids: more}
	for _, e := range events {
		a.rooms = append(a.rooms, e.Room)
		a.users = append(a.users, e.User)
		a.ids = append(a.ids, e.ID)
		if _, home, is := strings.Cut(e.User, ":"); is {
			a.servers = append(a.servers, home)
		}
	}
	return asked{rooms: sorted(a.rooms), users: sorted(a.users), servers: sorted(a.servers), ids: sorted(a.ids)}
}

// wrong is what a view tells otherwise than its model; the empty text, if there is nothing.
func wrong(v *view.View, m model, a asked) string {
	if got, want := v.Rooms(), m.rooms(); !slices.Equal(got, want) {
		return fmt.Sprintf("Rooms = %q, not %q", got, want)
	}
	for _, room := range a.rooms {
		for _, fault := range []string{wrongEvents(v, m, room, a), wrongMembers(v, m, room, a)} {
			if fault != "" {
				return fmt.Sprintf("of %q: %s", room, fault)
			}
		}
	}
	for _, user := range a.users {
		if fault := wrongUser(v, m, user, a); fault != "" {
			return fmt.Sprintf("of %q: %s", user, fault)
		}
	}
	return ""
}

func wrongEvents(v *view.View, m model, room string, a asked) string {
	if got, want := showAll(v.Events(room)), showAll(m.events(room)); got != want {
		return fmt.Sprintf("Events is\n%s\nnot\n%s", got, want)
	}
	if got, want := v.Heads(room), m.heads(room); !slices.Equal(got, want) {
		return fmt.Sprintf("Heads = %q, not %q", got, want)
	}
	at := m.positions(room)
	for _, id := range a.ids {
		want, there := at[id]
		if got, is := v.Position(room, id); got != want || is != there {
			return fmt.Sprintf("Position(%q) = %v, %v, not %v, %v", id, got, is, want, there)
		}
		for _, thread := range append([]string{"", "main"}, a.ids...) {
			if got, want := v.Fits(room, id, thread), m.fits(room, id, thread); got != want {
				return fmt.Sprintf("Fits(%q, %q) = %v, not %v", id, thread, got, want)
			}
		}
	}
	return ""
}

func wrongMembers(v *view.View, m model, room string, a asked) string {
	users, servers := m.users(room), m.servers(room)
	if got := v.Users(room); !slices.Equal(got, users) {
		return fmt.Sprintf("Users = %q, not %q", got, users)
	}
	if got := v.Servers(room); !slices.Equal(got, servers) {
		return fmt.Sprintf("Servers = %q, not %q", got, servers)
	}
	for _, user := range a.users {
		if got := v.Joined(room, user); got != slices.Contains(users, user) {
			return fmt.Sprintf("Joined(%q) = %v", user, got)
		}
	}
	for _, server := range a.servers {
		if got := v.In(room, server); got != slices.Contains(servers, server) {
			return fmt.Sprintf("In(%q) = %v", server, got)
		}
	}
	return ""
}

func wrongUser(v *view.View, m model, user string, a asked) string {
	if got, want := v.RoomsOf(user), m.roomsOf(user); !slices.Equal(got, want) {
		return fmt.Sprintf("RoomsOf = %q, not %q", got, want)
	}
	peers := m.peers(user)
	if got := v.Peers(user); !slices.Equal(got, peers) {
		return fmt.Sprintf("Peers = %q, not %q", got, peers)
	}
	for _, server := range a.servers {
		if got := v.Shares(user, server); got != slices.Contains(peers, server) {
			return fmt.Sprintf("Shares(%q) = %v", server, got)
		}
	}
	for _, other := range a.users {
		if got, want := v.Friends(user, other), m.friends(user, other); got != want {
			return fmt.Sprintf("Friends(%q) = %v, not %v", other, got, want)
		}
	}
	return ""
}

// check holds a view against its model, in all that there is, and in some things that there are not.
func check(t testing.TB, v *view.View, m model, more ...string) {
	t.Helper()
	if fault := wrong(v, m, about(m, append(more, "", "main", "!none:s", "@none:s", "none", "$none")...)); fault != "" {
		t.Fatalf("%s\nof\n%s", fault, showAll(m))
	}
}

// town is a view's events with something of everything: rooms of one user and of many, who leaves and comes back, threads.
func town() []api.Event {
	return []api.Event{
		joins("$a", "!r:s", "@a:s"), joins("$b", "!r:s", "@b:t", "$a"), says("$c", "!r:s", "@a:s", "$b"),
		threaded("$d", "!r:s", "@b:t", "$c", "$c"), threaded("$e", "!r:s", "@a:s", "$c", "$b"),
		joins("$a", "!q:t", "@b:t"), joins("$b", "!q:t", "@c:u", "$a"), says("$c", "!q:t", "@c:u"),
		joins("$a", "!p:v", "@d:v"), leaves("$b", "!p:v", "@d:v", "$a"), joins("$c", "!p:v", "@a:s", "$a"),
		leaves("$f", "!r:s", "@e:w", "$d", "$e"), joins("$g", "!r:s", "@d:v", "$f"), leaves("$h", "!r:s", "@d:v", "$g"),
		joins("$i", "!r:s", "@d:v", "$h"), says("$z", "!only:w", "@a:s"),
	}
}

// P10.1

func TestNewIsWithoutRooms(t *testing.T) {
	v := view.New()
	check(t, v, nil, append(strangers(), "!r:s", "@a:s", "$a")...)
	if len(v.Rooms()) != 0 {
		t.Errorf("Rooms = %q", v.Rooms())
	}
}

// TestNewOnesAreApart: what one of them is told the other one does not know.
func TestNewOnesAreApart(t *testing.T) {
	v, w := view.New(), view.New()
	v.Add(joins("$a", "!r:s", "@a:s"))
	check(t, w, nil, "!r:s", "@a:s", "$a")
	w.Add(leaves("$a", "!r:s", "@a:s"))
	w.Add(joins("$b", "!r:s", "@b:t"))
	check(t, v, model{joins("$a", "!r:s", "@a:s")}, "@b:t", "t", "$b")
	check(t, w, model{leaves("$a", "!r:s", "@a:s"), joins("$b", "!r:s", "@b:t")})
}

func TestTown(t *testing.T) {
	v := view.New()
	for i, e := range town() {
		if errno := v.Add(e); errno != api.OK {
			t.Fatalf("Add(%s) = %v", show(e), errno)
		}
		check(t, v, town()[:i+1])
	}
	check(t, v, town(), strangers()...)
}

// TestRoomsRise as whole texts, byte by byte, each once, whatever the row in which they came.
func TestRoomsRise(t *testing.T) {
	rooms := []string{"!-:s", "!.:s", "!0:s", "!a-:s", "!a.b:s", "!a0:s", "!a:a", "!a:a-a", "!a:a.a", "!a:aa", "!a:b", "!a_:s", "!aa:s", "!b:a", "!z:0", "!zzzzzzzzzzzzzzzz:zzzzzzzzzzzzzzzz"}
	random := rand.New(rand.NewSource(1))
	for range 50 {
		v := view.New()
		for _, id := range []string{"$a", "$b"} {
			for _, at := range random.Perm(len(rooms)) {
				v.Add(joins(id, rooms[at], "@a:s"))
			}
		}
		if got := v.Rooms(); !slices.Equal(got, rooms) {
			t.Fatalf("Rooms = %q", got)
		}
		if got := v.RoomsOf("@a:s"); !slices.Equal(got, rooms) {
			t.Fatalf("RoomsOf = %q", got)
		}
	}
}

// refused is an event that town refuses, and what it tells.
type refused struct {
	e    api.Event
	want api.Errno
}

// mayNotBe are events that may not be, in rooms that are known and in others.
func mayNotBe() []refused {
	var l []refused
	good := says("$x", "!r:s", "@a:s", "$a")
	for _, spoil := range []func(e *api.Event){
		func(e *api.Event) { e.ID = "" },
		func(e *api.Event) { e.ID = "x" },
		func(e *api.Event) { e.ID = "$" },
		func(e *api.Event) { e.ID = "$x.y" },
		func(e *api.Event) { e.ID = "$" + strings.Repeat("x", 17) },
		func(e *api.Event) { e.ID = "$a" }, // its own Parent
		func(e *api.Event) { e.Room = "" },
		func(e *api.Event) { e.Room = "r" },
		func(e *api.Event) { e.Room = "!r" },
		func(e *api.Event) { e.Room = "@r:s" },
		func(e *api.Event) { e.Room = "!R:s" },
		func(e *api.Event) { e.Room = "!r:s " },
		func(e *api.Event) { e.User = "" },
		func(e *api.Event) { e.User = "a:s" },
		func(e *api.Event) { e.User = "!a:s" },
		func(e *api.Event) { e.User = "@a:-s" },
		func(e *api.Event) { e.Parents = []string{"a"} },
		func(e *api.Event) { e.Parents = []string{""} },
		func(e *api.Event) { e.Parents = []string{"$b", "$a"} },
		func(e *api.Event) { e.Parents = []string{"$a", "$a"} },
		func(e *api.Event) { e.Parents = []string{"$a", "$b", "$c", "$d", "$e"} },
		func(e *api.Event) { e.Does = 3 },
		func(e *api.Event) { e.Does = -1 },
		func(e *api.Event) { e.Thread = "main" },
		func(e *api.Event) { e.Thread = "$x" },
		func(e *api.Event) { e.Thread, e.Does = "$c", api.Joins },
		func(e *api.Event) { e.Thread, e.Does = "$c", api.Leaves },
	} {
		e := good
		e.Parents = slices.Clone(e.Parents)
		spoil(&e)
		l = append(l, refused{e, api.ErrArg})
		if e.Room == good.Room { // and the same in a room that is not known
			e.Room = "!new:s"
			l = append(l, refused{e, api.ErrArg})
		}
	}
	return l
}

// doNotCome are events that may be, but are refused as those of town are.
func doNotCome() []refused {
	return []refused{
		{joins("$a", "!r:s", "@a:s"), api.ErrTwice},
		{leaves("$a", "!r:s", "@x:s", "$b"), api.ErrTwice},
		{says("$a", "!r:s", "@a:s", "$none"), api.ErrTwice}, // ahead of ErrUnknown
		{threaded("$a", "!r:s", "@a:s", "$d"), api.ErrTwice},
		{threaded("$a", "!q:t", "@a:s", "$none"), api.ErrTwice},
		{says("$x", "!r:s", "@a:s", "$none"), api.ErrUnknown},
		{says("$x", "!r:s", "@a:s", "$a", "$none"), api.ErrUnknown},
		{says("$x", "!q:t", "@b:t", "$d"), api.ErrUnknown}, // $d is in another room alone
		{says("$x", "!new:s", "@a:s", "$a"), api.ErrUnknown},
		{threaded("$x", "!r:s", "@a:s", "$none"), api.ErrUnknown},
		{threaded("$x", "!r:s", "@a:s", "$z"), api.ErrUnknown}, // $z is in another room alone
		{threaded("$x", "!new:s", "@a:s", "$c"), api.ErrUnknown},
		{threaded("$x", "!r:s", "@a:s", "$d", "$none"), api.ErrUnknown}, // ahead of ErrThread
		{threaded("$x", "!r:s", "@a:s", "$d"), api.ErrThread},           // it has a Thread
		{threaded("$x", "!r:s", "@a:s", "$a"), api.ErrThread},           // it joins
		{threaded("$x", "!r:s", "@a:s", "$f"), api.ErrThread},           // it leaves
		{threaded("$x", "!p:v", "@a:s", "$b"), api.ErrThread},
	}
}

// TestWhatIsRefused tells its error, and changes nothing.
func TestWhatIsRefused(t *testing.T) {
	v, m := viewOf(t, town()...), model(town())
	for _, x := range append(mayNotBe(), doNotCome()...) {
		if want := m.refusal(x.e); want != x.want {
			t.Fatalf("the test's own model tells %v of %s, not %v", want, show(x.e), x.want)
		}
		if errno := v.Add(x.e); errno != x.want {
			t.Errorf("Add(%s) = %v, not %v", show(x.e), errno, x.want)
		}
		check(t, v, m, x.e.ID, x.e.Room, x.e.User)
		if !v.Same(viewOf(t, town()...)) {
			t.Errorf("Add(%s) makes it another view", show(x.e))
		}
	}
}

// TestARefusedEventMakesNoRoom, in a view without any either, and the room comes as a new one behind it.
func TestARefusedEventMakesNoRoom(t *testing.T) {
	for _, x := range append(mayNotBe(), doNotCome()...) {
		v := view.New()
		want := model(nil).refusal(x.e)
		if errno := v.Add(x.e); errno != want {
			t.Errorf("Add(%s) = %v, not %v", show(x.e), errno, want)
		}
		if want == api.OK {
			continue
		}
		check(t, v, nil, x.e.ID, x.e.Room, x.e.User)
		if !v.Same(view.New()) || !view.New().Same(v) {
			t.Errorf("behind %s it is no view without rooms", show(x.e))
		}
		first := joins("$first", "!r:s", "@a:s")
		if errno := v.Add(first); errno != api.OK {
			t.Errorf("Add = %v behind %s", errno, show(x.e))
		}
		check(t, v, model{first})
	}
}

// TestRoomsHaveTheirOwnEvents: one ID may be in each of them, with other fields.
func TestRoomsHaveTheirOwnEvents(t *testing.T) {
	events := []api.Event{
		joins("$a", "!r:s", "@a:s"), says("$b", "!r:s", "@a:s", "$a"), threaded("$c", "!r:s", "@a:s", "$b", "$b"),
		says("$b", "!r:t", "@b:t"), joins("$c", "!r:t", "@b:t"), threaded("$a", "!r:t", "@b:t", "$b", "$b", "$c"),
		leaves("$a", "!q:s", "@a:s"),
	}
	v := viewOf(t, events...)
	check(t, v, events)
	for room, want := range map[string]api.Position{"!r:s": {}, "!r:t": {Depth: 1}, "!q:s": {}, "!none:s": {}} {
		at, is := v.Position(room, "$a")
		if is {
			want.ID = "$a"
		}
		if at != want || is != (room != "!none:s") {
			t.Errorf("Position(%q, $a) = %v, %v", room, at, is)
		}
	}
	if v.Fits("!r:s", "$a", "main") != api.OK || v.Fits("!r:t", "$a", "main") != api.ErrThread || v.Fits("!r:t", "$a", "$b") != api.OK || v.Fits("!r:s", "$a", "$b") != api.ErrThread {
		t.Error("the threads of $a")
	}
	if !v.Joined("!r:s", "@a:s") || v.Joined("!r:t", "@a:s") || v.Joined("!q:s", "@a:s") {
		t.Error("where @a:s is joined")
	}
}

// P10.2

// TestRoomsThatAreNotKnown: nothing is in them; being asked makes none of them known.
func TestRoomsThatAreNotKnown(t *testing.T) {
	v := viewOf(t, town()...)
	for _, room := range append([]string{"!x:s", "!r:t", "!r", "@a:s", "$a"}, strangers()...) {
		if l := v.Events(room); len(l) != 0 {
			t.Errorf("Events(%q) = %v", room, l)
		}
		if l := v.Heads(room); len(l) != 0 {
			t.Errorf("Heads(%q) = %q", room, l)
		}
		if at, is := v.Position(room, "$a"); is || at != (api.Position{}) {
			t.Errorf("Position(%q) = %v, %v", room, at, is)
		}
		if v.Joined(room, "@a:s") || v.In(room, "s") || len(v.Users(room)) != 0 || len(v.Servers(room)) != 0 {
			t.Errorf("somebody is in %q", room)
		}
		for _, thread := range []string{"", "main", "$a", "bad"} {
			if errno := v.Fits(room, "$a", thread); errno != api.ErrUnknown {
				t.Errorf("Fits(%q, $a, %q) = %v", room, thread, errno)
			}
		}
	}
	check(t, v, town())
}

// TestEventsAreWhole, in their row, and Heads and Position are as they stand.
func TestEventsAreWhole(t *testing.T) {
	long := "$" + strings.Repeat("Z", 16)
	events := []api.Event{
		says("$d", "!r:s", "@a:s"), joins("$c", "!r:s", "@b:t"), leaves("$b", "!r:s", "@c:u"), says("$a", "!r:s", "@d:v"),
		threaded(long, "!r:s", "@e:w", "$d", "$a", "$b", "$c", "$d"), joins("$0", "!r:s", "@e:w", "$c"), says("$_", "!r:s", "@a:s"),
	}
	v := viewOf(t, events...)
	want := []api.Event{events[6], events[3], events[2], events[1], events[0], events[5], events[4]}
	if got := v.Events("!r:s"); showAll(got) != showAll(want) {
		t.Errorf("Events is\n%s\nnot\n%s", showAll(got), showAll(want))
	}
	if got := v.Heads("!r:s"); !slices.Equal(got, []string{"$_", "$0", long}) {
		t.Errorf("Heads = %q", got)
	}
	if at, is := v.Position("!r:s", long); !is || at != (api.Position{Depth: 1, ID: long}) {
		t.Errorf("Position = %v, %v", at, is)
	}
	check(t, v, events)
}

// TestPositionsOfWhatIsNotThere: events of other rooms, and texts that are none.
func TestPositionsOfWhatIsNotThere(t *testing.T) {
	v := viewOf(t, town()...)
	for _, id := range append([]string{"$z", "$x", "a", "!r:s", "@a:s"}, strangers()...) {
		if at, is := v.Position("!r:s", id); is || at != (api.Position{}) {
			t.Errorf("Position(%q) = %v, %v", id, at, is)
		}
		if errno := v.Fits("!r:s", id, ""); errno != api.ErrUnknown {
			t.Errorf("Fits(%q) = %v", id, errno)
		}
		if errno := v.Fits("!r:s", id, id); errno != api.ErrUnknown {
			t.Errorf("Fits(%q, itself) = %v", id, errno)
		}
	}
}

// TestThreads is the chapter's example, with all that is near it.
func TestThreads(t *testing.T) {
	v := viewOf(t, says("$t", "!r:s", "@a:s"), threaded("$u", "!r:s", "@a:s", "$t"), says("$v", "!r:s", "@a:s", "$t", "$u"),
		threaded("$w", "!r:s", "@a:s", "$v", "$u"), joins("$j", "!r:s", "@a:s"), leaves("$l", "!r:s", "@a:s"))
	of := map[string][]string{
		"$t": {"", "main", "$t"},
		"$u": {"", "$t", "$u"},
		"$v": {"", "main", "$v"}, // of no thread by its Parents
		"$w": {"", "$v", "$w"},
		"$j": {"", "main", "$j"}, // whatever it does
		"$l": {"", "main", "$l"},
	}
	for id, right := range of {
		for _, thread := range append([]string{"$t", "$u", "$v", "$w", "$j", "$l", "$none", "$", "t", "!r:s", "@a:s"}, strangers()...) {
			want := api.ErrThread
			if slices.Contains(right, thread) {
				want = api.OK
			}
			if errno := v.Fits("!r:s", id, thread); errno != want {
				t.Errorf("Fits(%q, %q) = %v, not %v", id, thread, errno, want)
			}
		}
	}
}

// TestMembersAreByRooms: who joins one of them is in no other one.
func TestMembersAreByRooms(t *testing.T) {
	v := viewOf(t, town()...)
	for _, x := range []struct {
		room           string
		users, servers []string
	}{
		{"!r:s", []string{"@a:s", "@b:t", "@d:v"}, []string{"s", "t", "v"}},
		{"!q:t", []string{"@b:t", "@c:u"}, []string{"t", "u"}},
		{"!p:v", []string{"@a:s"}, []string{"s"}}, // its home's only user has left
		{"!only:w", nil, nil}, // who says something is not joined by it
	} {
		if got := v.Users(x.room); !slices.Equal(got, x.users) {
			t.Errorf("Users(%q) = %q", x.room, got)
		}
		if got := v.Servers(x.room); !slices.Equal(got, x.servers) {
			t.Errorf("Servers(%q) = %q", x.room, got)
		}
		for _, user := range []string{"@a:s", "@b:t", "@c:u", "@d:v", "@e:w", "", "s"} {
			if got := v.Joined(x.room, user); got != slices.Contains(x.users, user) {
				t.Errorf("Joined(%q, %q) = %v", x.room, user, got)
			}
		}
		for _, server := range []string{"s", "t", "u", "v", "w", "", "@a:s"} {
			if got := v.In(x.room, server); got != slices.Contains(x.servers, server) {
				t.Errorf("In(%q, %q) = %v", x.room, server, got)
			}
		}
	}
}

// P10.3

func TestWhoShares(t *testing.T) {
	v := viewOf(t, town()...)
	for _, x := range []struct {
		user                  string
		rooms, peers, friends []string
	}{
		{"@a:s", []string{"!p:v", "!r:s"}, []string{"s", "t", "v"}, []string{"@a:s", "@b:t", "@d:v"}},
		{"@b:t", []string{"!q:t", "!r:s"}, []string{"s", "t", "u", "v"}, []string{"@a:s", "@b:t", "@c:u", "@d:v"}},
		{"@c:u", []string{"!q:t"}, []string{"t", "u"}, []string{"@b:t", "@c:u"}},
		{"@d:v", []string{"!r:s"}, []string{"s", "t", "v"}, []string{"@a:s", "@b:t", "@d:v"}},
		{"@e:w", nil, nil, nil}, // it has only left
		{"@f:s", nil, nil, nil}, // it has done nothing, though its home is in rooms
		{"", nil, nil, nil},
		{"s", nil, nil, nil},
	} {
		if got := v.RoomsOf(x.user); !slices.Equal(got, x.rooms) {
			t.Errorf("RoomsOf(%q) = %q", x.user, got)
		}
		if got := v.Peers(x.user); !slices.Equal(got, x.peers) {
			t.Errorf("Peers(%q) = %q", x.user, got)
		}
		for _, server := range []string{"s", "t", "u", "v", "w", "", "@a:s", "!r:s"} {
			if got := v.Shares(x.user, server); got != slices.Contains(x.peers, server) {
				t.Errorf("Shares(%q, %q) = %v", x.user, server, got)
			}
		}
		for _, other := range []string{"@a:s", "@b:t", "@c:u", "@d:v", "@e:w", "@f:s", "", "s"} {
			if got := v.Friends(x.user, other); got != slices.Contains(x.friends, other) {
				t.Errorf("Friends(%q, %q) = %v", x.user, other, got)
			}
		}
	}
}

// TestSharingIsInOneRoom: not by way of a third user, nor by another user of the same server.
func TestSharingIsInOneRoom(t *testing.T) {
	events := []api.Event{
		joins("$a", "!r:s", "@a:s"), joins("$b", "!r:s", "@b:t"),
		joins("$a", "!q:s", "@b:t"), joins("$b", "!q:s", "@c:u"),
		joins("$a", "!p:s", "@d:t"), joins("$b", "!p:s", "@a:u"),
	}
	v := viewOf(t, events...)
	if v.Friends("@a:s", "@c:u") || v.Shares("@a:s", "u") || v.Friends("@a:s", "@d:t") || v.Friends("@a:s", "@a:u") {
		t.Error("what is shared in several rooms alone")
	}
	if !v.Shares("@a:s", "t") || !v.Shares("@d:t", "u") || !v.Friends("@c:u", "@b:t") {
		t.Error("what is shared in one room")
	}
	check(t, v, events)
}

// TestSharingEnds where one of both leaves, and begins again where it joins.
func TestSharingEnds(t *testing.T) {
	events := []api.Event{
		joins("$a", "!r:s", "@a:s"), joins("$b", "!r:s", "@b:t", "$a"), leaves("$c", "!r:s", "@b:t", "$b"),
		joins("$d", "!r:s", "@b:t", "$c"), leaves("$e", "!r:s", "@a:s", "$d"), leaves("$f", "!r:s", "@b:t", "$e"),
	}
	v := view.New()
	for i, share := range []bool{false, true, false, true, false, false} {
		v.Add(events[i])
		if v.Friends("@a:s", "@b:t") != share || v.Friends("@b:t", "@a:s") != share || v.Shares("@a:s", "t") != share || v.Shares("@b:t", "s") != share {
			t.Errorf("behind %s they do not share as is right", events[i].ID)
		}
		alone := i < 4
		if v.Friends("@a:s", "@a:s") != alone || v.Shares("@a:s", "s") != alone || slices.Equal(v.RoomsOf("@a:s"), []string{"!r:s"}) != alone {
			t.Errorf("behind %s @a:s does not share with itself as is right", events[i].ID)
		}
		check(t, v, events[:i+1])
	}
}

// TestPeersRise byte by byte, each once, though in several rooms.
func TestPeersRise(t *testing.T) {
	servers := []string{"0", "a", "a-a", "a.a", "a0", "b", "s", "z", "zzzzzzzzzzzzzzzz"}
	random := rand.New(rand.NewSource(2))
	for range 30 {
		v := view.New()
		for n, at := range random.Perm(2 * len(servers)) {
			room := fmt.Sprintf("!r%d:x", at%3)
			v.Add(joins(fmt.Sprintf("$%d", n), room, fmt.Sprintf("@u%d:%s", n, servers[at%len(servers)])))
			v.Add(joins("$me", room, "@me:s"))
		}
		if got := v.Peers("@me:s"); !slices.Equal(got, servers) {
			t.Fatalf("Peers = %q", got)
		}
	}
}

// holdSame holds Same, asked in both ways, of two views of these events.
func holdSame(t *testing.T, a, b []api.Event, want bool) {
	t.Helper()
	v, w := viewOf(t, a...), viewOf(t, b...)
	if v.Same(w) != want || w.Same(v) != want {
		t.Errorf("Same = %v, %v, not %v, of\n%s\nand\n%s", v.Same(w), w.Same(v), want, showAll(a), showAll(b))
	}
	check(t, v, a)
	check(t, w, b)
}

// TestOneFieldPartsViews: any of the fields, of any of the events.
func TestOneFieldPartsViews(t *testing.T) {
	base := []api.Event{says("$a", "!r:s", "@a:s"), says("$b", "!r:s", "@a:s", "$a"), threaded("$c", "!r:s", "@a:s", "$a", "$a", "$b"), joins("$a", "!q:s", "@a:s")}
	holdSame(t, base, base, true)
	for _, change := range []func(l []api.Event){
		func(l []api.Event) { l[3].ID = "$b" },
		func(l []api.Event) { l[3].Room = "!q:t" },
		func(l []api.Event) { l[3].Room, l[3].ID = "!r:s", "$d" },
		func(l []api.Event) { l[3].User = "@b:s" },
		func(l []api.Event) { l[3].User = "@a:t" },
		func(l []api.Event) { l[3].Does = api.Leaves },
		func(l []api.Event) { l[3].Does = api.Message },
		func(l []api.Event) { l[2].Thread = "$b" },
		func(l []api.Event) { l[2].Thread = "" },
		func(l []api.Event) { l[2].Parents = []string{"$b"} },
		func(l []api.Event) { l[2].Parents = []string{"$a"} },
		func(l []api.Event) { l[2].Parents = nil },
		func(l []api.Event) { l[1].Parents = nil },
		func(l []api.Event) { l[2].ID = "$d" },
		func(l []api.Event) { l[0].User = "@b:t" },
	} {
		other := slices.Clone(base)
		change(other)
		holdSame(t, base, other, false)
		holdSame(t, other, other, true)
	}
}

// TestWhoKnowsMoreIsAnother, by an event or by a room.
func TestWhoKnowsMoreIsAnother(t *testing.T) {
	all := town()
	for n := range len(all) {
		holdSame(t, all[:n], all[:n], true)
		holdSame(t, all[:n], all[:n+1], false)
		holdSame(t, all[:n], all, false)
	}
	one, two := []api.Event{joins("$a", "!r:s", "@a:s")}, []api.Event{joins("$a", "!q:s", "@a:s")}
	holdSame(t, one, two, false)
	holdSame(t, append(one, two...), append(two, one...), true)
	v := viewOf(t, all...)
	if !v.Same(v) || !view.New().Same(view.New()) {
		t.Error("a view is another than itself")
	}
}

// TestNilAndEmptyParentsAreOne, whichever of them was handed in.
func TestNilAndEmptyParentsAreOne(t *testing.T) {
	none, empty := says("$a", "!r:s", "@a:s"), says("$a", "!r:s", "@a:s")
	none.Parents, empty.Parents = nil, []string{}
	holdSame(t, []api.Event{none}, []api.Event{empty}, true)
}

// P10.4

// permutations are all rows of numbers up to n.
func permutations(n int) [][]int {
	if n == 0 {
		return [][]int{nil}
	}
	var all [][]int
	for _, row := range permutations(n - 1) {
		for at := range n {
			all = append(all, slices.Insert(slices.Clone(row), at, n-1))
		}
	}
	return all
}

// TestAllRowsMakeTheSameView: an event that is refused, as its Parents are not there yet, is handed in again behind them.
func TestAllRowsMakeTheSameView(t *testing.T) {
	events := []api.Event{
		says("$c", "!r:s", "@a:s"), threaded("$b", "!r:s", "@a:s", "$c"), joins("$a", "!r:s", "@a:s", "$b", "$c"),
		leaves("$a", "!q:t", "@a:s"), joins("$b", "!q:t", "@a:s"), joins("$z", "!p:u", "@b:t"),
	}
	want := viewOf(t, events...)
	a := about(events, "", "main")
	for _, row := range permutations(len(events)) {
		v := view.New()
		for range events {
			for _, at := range row {
				v.Add(events[at])
			}
		}
		if !v.Same(want) || !want.Same(v) {
			t.Fatalf("in the row %v it is another view", row)
		}
		if fault := wrong(v, events, a); fault != "" {
			t.Fatalf("in the row %v: %s", row, fault)
		}
	}
}

// chance is n events of some rooms and users, each behind some of the last ones of its room.
func chance(random *rand.Rand, n, rooms, users int) []api.Event {
	var events []api.Event
	ids := random.Perm(n)
	for i := range n {
		room := fmt.Sprintf("!r%d:h0", random.Intn(rooms))
		var of []api.Event
		for _, e := range events {
			if e.Room == room {
				of = append(of, e)
			}
		}
		who := random.Intn(users)
		e := event(fmt.Sprintf("$%d", ids[i]), room, fmt.Sprintf("@u%d:h%d", who, who*who%5), random.Intn(3))
		if len(of) > 0 {
			var parents []string
			for range random.Intn(api.MaxParents + 1) {
				parents = append(parents, of[len(of)-1-random.Intn(min(len(of), 6))].ID)
			}
			e.Parents = sorted(parents)
			if first := of[random.Intn(len(of))]; first.Thread == "" && first.Does == api.Message && e.Does == api.Message {
				e.Thread = first.ID
			}
		}
		events = append(events, e)
	}
	return events
}

// TestRowsOfChance: views of chance, told in rows of chance, with what is refused between.
func TestRowsOfChance(t *testing.T) {
	random := rand.New(rand.NewSource(3))
	for range 40 {
		events := chance(random, random.Intn(40), 1+random.Intn(5), 1+random.Intn(7))
		a := about(events, "", "main", "$none", "!none:s", "@none:s")
		whole := viewOf(t, events...)
		if fault := wrong(whole, events, a); fault != "" {
			t.Fatalf("%s\nof\n%s", fault, showAll(events))
		}
		for range 5 {
			v, m := view.New(), model(nil)
			for len(m) < len(events) {
				e := events[random.Intn(len(events))]
				want := m.refusal(e)
				if errno := v.Add(e); errno != want {
					t.Fatalf("Add(%s) = %v, not %v, behind\n%s", show(e), errno, want, showAll(m))
				}
				if want == api.OK {
					m = append(m, e)
				}
				if got := v.Same(whole) && whole.Same(v); got != (len(m) == len(events)) {
					t.Fatalf("Same = %v with %d of %d events", got, len(m), len(events))
				}
			}
			if fault := wrong(v, events, a); fault != "" {
				t.Fatalf("%s\nof\n%s", fault, showAll(m))
			}
		}
	}
}

// TestAllRowsOfThree of a few events of two rooms: each step against the model.
func TestAllRowsOfThree(t *testing.T) {
	few := []api.Event{
		joins("$a", "!r:s", "@a:s"), says("$a", "!r:s", "@b:t"), leaves("$b", "!r:s", "@a:s"), leaves("$b", "!r:s", "@a:s", "$a"),
		joins("$b", "!r:s", "@b:t"), threaded("$b", "!r:s", "@a:s", "$a"), joins("$c", "!r:s", "@a:s", "$a", "$b"), threaded("$c", "!r:s", "@a:s", "$b", "$b"),
		joins("$a", "!q:s", "@a:s"), joins("$b", "!q:s", "@b:t", "$a"), says("$a", "!q:s", "@b:t"), threaded("$b", "!q:s", "@b:t", "$a"),
		joins("$c", "!r:s", "@a"), joins("$c", "r", "@a:s"), joins("$c", "!q:s", "@a:s", "$c"),
	}
	a := about(few, "", "main")
	n := len(few)
	for row := range n * n * n {
		v, m := view.New(), model(nil)
		for _, at := range []int{row % n, row / n % n, row / n / n} {
			want := m.refusal(few[at])
			if errno := v.Add(few[at]); errno != want {
				t.Fatalf("Add(%s) = %v, not %v, behind\n%s", show(few[at]), errno, want, showAll(m))
			}
			if want == api.OK {
				m = append(m, few[at])
			}
		}
		if fault := wrong(v, m, a); fault != "" {
			t.Fatalf("%s\nof\n%s", fault, showAll(m))
		}
	}
}

// TestManyRooms and many users in them.
func TestManyRooms(t *testing.T) {
	v := view.New()
	var rooms, odd, homes []string
	for i := range 500 {
		room := fmt.Sprintf("!r%03d:s", i)
		rooms = append(rooms, room)
		v.Add(joins("$a", room, fmt.Sprintf("@u%d:h%02d", i, i%50)))
		if i%2 == 1 {
			v.Add(joins("$b", room, "@me:me", "$a"))
			odd = append(odd, room)
			homes = append(homes, fmt.Sprintf("h%02d", i%50))
		}
	}
	if got := v.Rooms(); !slices.Equal(got, rooms) {
		t.Errorf("%d rooms", len(got))
	}
	if got := v.RoomsOf("@me:me"); !slices.Equal(got, odd) {
		t.Errorf("%d rooms of one user", len(got))
	}
	if got := v.Peers("@me:me"); !slices.Equal(got, sorted(append(homes, "me"))) {
		t.Errorf("Peers = %q", got)
	}
	if !v.Friends("@u499:h49", "@me:me") || v.Friends("@u498:h48", "@me:me") || v.Shares("@me:me", "h48") || !v.Shares("@me:me", "h49") {
		t.Error("who shares")
	}
}

// What is answered is new memory, and what is handed in is left as it is.

func TestAskingChangesNothing(t *testing.T) {
	v, w := viewOf(t, town()...), viewOf(t, town()...)
	for range 3 {
		check(t, v, town(), "!new:s", "@new:s", "$new")
		if !v.Same(w) || v.Same(view.New()) || !w.Same(v) {
			t.Error("asking makes it another view")
		}
	}
	check(t, w, town())
}

func spoil(l []string) {
	for i := range l[:cap(l)] {
		l[:cap(l)][i] = "spoilt"
	}
}

func TestAnswersMayBeChanged(t *testing.T) {
	v := viewOf(t, town()...)
	for range 3 {
		check(t, v, town())
		spoil(v.Rooms())
		for _, room := range append(v.Rooms(), "!none:s") {
			events := v.Events(room)
			for i := range events {
				spoil(events[i].Parents)
				events[i] = api.Event{}
			}
			spoil(v.Heads(room))
			spoil(v.Users(room))
			spoil(v.Servers(room))
		}
		for _, user := range []string{"@a:s", "@b:t", "@c:u", "@d:v", "@none:s"} {
			spoil(v.RoomsOf(user))
			spoil(v.Peers(user))
		}
	}
}

func TestEventsHandedInMayBecomeOthers(t *testing.T) {
	v := view.New()
	for _, e := range town() {
		parents := append(slices.Clone(e.Parents), "spare", "room")
		e.Parents = parents[:len(parents)-2]
		if errno := v.Add(e); errno != api.OK {
			t.Fatal(errno)
		}
		if parents[len(parents)-2] != "spare" || parents[len(parents)-1] != "room" {
			t.Errorf("the spare room is %q", parents)
		}
		spoil(parents)
	}
	check(t, v, town())
}

// TestTextsHandedInMayBecomeOthers: neither a view nor an answer holds on to their bytes.
func TestTextsHandedInMayBecomeOthers(t *testing.T) {
	var all [][]byte
	own := func(s string) string {
		b := []byte(s + "\x00")
		all = append(all, b)
		return unsafe.String(&b[0], len(s))
	}
	v := view.New()
	for _, e := range town() {
		for i, p := range e.Parents {
			e.Parents[i] = own(p)
		}
		e.ID, e.Room, e.User, e.Thread = own(e.ID), own(e.Room), own(e.User), own(e.Thread)
		if errno := v.Add(e); errno != api.OK {
			t.Fatal(errno)
		}
	}
	rooms, peers := v.RoomsOf(own("@a:s")), v.Peers(own("@a:s"))
	at, _ := v.Position(own("!r:s"), own("$d"))
	for _, b := range all {
		for i := range b {
			b[i] = '?'
		}
	}
	if !slices.Equal(rooms, []string{"!p:v", "!r:s"}) || !slices.Equal(peers, []string{"s", "t", "v"}) || at != (api.Position{Depth: 3, ID: "$d"}) {
		t.Errorf("%q, %q, %v", rooms, peers, at)
	}
	check(t, v, town())
}

// TestNoTextIsShared between two answers, or an answer and what was handed in.
func TestNoTextIsShared(t *testing.T) {
	v, events := view.New(), chance(rand.New(rand.NewSource(4)), 60, 4, 6)
	texts := map[*byte]string{} // the addresses hold on to the texts, so that no memory is used again
	note := func(called string, l ...string) {
		for _, s := range l {
			if s == "" {
				continue
			}
			at := unsafe.StringData(s)
			if first, is := texts[at]; is {
				t.Fatalf("%s and %s share the text %q", called, first, s)
			}
			texts[at] = called
		}
	}
	for i := range events {
		e := &events[i]
		e.Room, e.Thread = strings.Clone(e.Room), strings.Clone(e.Thread)
		for j, p := range e.Parents {
			e.Parents[j] = strings.Clone(p)
		}
		note("an event handed in", append([]string{e.ID, e.Room, e.User, e.Thread}, e.Parents...)...)
		v.Add(*e)
	}
	for range 3 {
		note("Rooms", v.Rooms()...)
		for _, room := range v.Rooms() {
			for _, e := range v.Events(room) {
				note("Events", append([]string{e.ID, e.Room, e.User, e.Thread}, e.Parents...)...)
				at, _ := v.Position(room, e.ID)
				note("Position", at.ID)
				note("RoomsOf", v.RoomsOf(e.User)...)
				note("Peers", v.Peers(e.User)...)
			}
			note("Heads", v.Heads(room)...)
			note("Users", v.Users(room)...)
			note("Servers", v.Servers(room)...)
		}
	}
	if len(texts) < 500 {
		t.Fatalf("only %d texts", len(texts))
	}
}
