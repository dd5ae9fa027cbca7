package member_test

import (
	"fmt"
	"math/rand"
	"regexp"
	"slices"
	"strings"
	"testing"
	"unsafe"

	"concourse/api"
	"concourse/dag"
	"concourse/member"
)

const room = "!r:s"

// step is an event of the room by which a user does something, behind its Parents, which are sorted here.
func step(id, user string, does int, parents ...string) api.Event {
	return api.Event{ID: id, Room: room, User: user, Does: does, Parents: slices.Sorted(slices.Values(parents))}
}

func joins(id, user string, parents ...string) api.Event {
	return step(id, user, api.Joins, parents...)
}

func leaves(id, user string, parents ...string) api.Event {
	return step(id, user, api.Leaves, parents...)
}

func says(id, user string, parents ...string) api.Event {
	return step(id, user, api.Message, parents...)
}

// dagOf is a dag of these events, each behind its Parents.
func dagOf(t testing.TB, events ...api.Event) *dag.Dag {
	t.Helper()
	d := dag.New(room)
	for _, e := range events {
		if errno := d.Add(e); errno != api.OK {
			t.Fatalf("the test's own dag: Add(%#v) = %v", e, errno)
		}
	}
	return d
}

// model is who is joined by the chapter's words: a plain list of events, gone through whenever something is asked.
type model []api.Event

func (m model) depth(id string) int {
	depth := 0
	for _, e := range m {
		if e.ID == id {
			for _, p := range e.Parents {
				depth = max(depth, m.depth(p)+1)
			}
		}
	}
	return depth
}

// depths are those of all events, told once: each one's Parents stand ahead of it in the list.
func (m model) depths() map[string]int {
	depths := map[string]int{}
	for _, e := range m {
		depth := 0
		for _, p := range e.Parents {
			depth = max(depth, depths[p]+1)
		}
		depths[e.ID] = depth
	}
	return depths
}

// last is, of all the user's that join or leave, that with the greatest position.
func (m model) last(user string) (api.Event, bool) {
	depths := m.depths()
	best, is := api.Event{}, false
	for _, e := range m {
		if e.User != user || e.Does != 1 && e.Does != 2 {
			continue
		}
		deeper := depths[e.ID] > depths[best.ID]
		beside := depths[e.ID] == depths[best.ID]
		if !is || deeper || beside && slices.Compare([]byte(e.ID), []byte(best.ID)) > 0 {
			best, is = e, true
		}
	}
	return best, is
}

func (m model) joined(user string) bool {
	e, is := m.last(user)
	return is && e.Does == 1
}

// sorted is a list's texts, byte by byte, each once.
func sorted(l []string) []string {
	l = slices.Clone(l)
	slices.SortFunc(l, func(a, b string) int { return slices.Compare([]byte(a), []byte(b)) })
	return slices.Compact(l)
}

func (m model) users() []string {
	var users []string
	for _, e := range m {
		if m.joined(e.User) {
			users = append(users, e.User)
		}
	}
	return sorted(users)
}

const serverPattern = `[a-z0-9]|[a-z0-9][a-z0-9.-]{0,14}[a-z0-9]`

// named is a user or a room, whose home is the part in brackets.
var named = regexp.MustCompile(`\A[@!][a-z0-9._-]{1,16}:(` + serverPattern + `)\z`)

func homes(names []string) []string {
	var homes []string
	for _, n := range names {
		if found := named.FindStringSubmatch(n); found != nil {
			homes = append(homes, found[1])
		}
	}
	return sorted(homes)
}

// strangers are texts that are no user's, or none's who did anything, beside those of the tests.
func strangers() []string {
	return []string{"", "@", ":", "s", "t", "u", room, "$a", "@none:s", "@a", "@a:", "@:s", "a:s", "@A:s", "@a:S", "@a:s ",
		" @a:s", "@a:s\x00", "@a:s:s", "!a:s", "@a:s.", "@\xc3\xa9:s", "@a:s\xff", strings.Repeat("a", 40), "main"}
}

// same is whether all fields of two events are; nil and empty Parents are one.
func same(a, b api.Event) bool { return show(a) == show(b) }

func show(e api.Event) string {
	return fmt.Sprintf("%q %q %q %q %q %d", e.ID, e.Room, e.Parents, e.Thread, e.User, e.Does)
}

// wrong is what a dag is told otherwise than by the model; the empty text, if there is nothing.
func wrong(d *dag.Dag, m model, more ...string) string {
	users := m.users()
	if l := member.Users(d); !slices.Equal(l, users) {
		return fmt.Sprintf("Users = %q, not %q", l, users)
	}
	servers := homes(users)
	if l := member.Servers(d); !slices.Equal(l, servers) {
		return fmt.Sprintf("Servers = %q, not %q", l, servers)
	}
	asked := slices.Clone(more)
	for _, e := range m {
		asked = append(asked, e.User)
	}
	for _, user := range sorted(asked) {
		want, is := m.last(user)
		if got, was := member.Last(d, user); was != is || !same(got, want) {
			return fmt.Sprintf("Last(%q) = %#v, %v, not %#v, %v", user, got, was, want, is)
		}
		if got := member.Joined(d, user); got != m.joined(user) {
			return fmt.Sprintf("Joined(%q) = %v", user, got)
		}
	}
	for _, server := range sorted(append(homes(asked), more...)) {
		if got := member.In(d, server); got != slices.Contains(servers, server) {
			return fmt.Sprintf("In(%q) = %v", server, got)
		}
	}
	return ""
}

func check(t *testing.T, events ...api.Event) {
	t.Helper()
	if fault := wrong(dagOf(t, events...), events, strangers()...); fault != "" {
		t.Errorf("%s\nof %#v", fault, events)
	}
}

// checkUsers holds a dag of these events against who is joined, told by hand, and against the model.
func checkUsers(t *testing.T, events []api.Event, users ...string) {
	t.Helper()
	if l := member.Users(dagOf(t, events...)); !slices.Equal(l, users) {
		t.Errorf("Users = %q, not %q\nof %#v", l, users, events)
	}
	check(t, events...)
}

// checkLast holds a user's last step in a dag of these events against its ID, told by hand.
func checkLast(t *testing.T, events []api.Event, user, id string) {
	t.Helper()
	if e, is := member.Last(dagOf(t, events...), user); !is || e.ID != id {
		t.Errorf("Last(%q) = %#v, %v, not that of %q\nof %#v", user, e, is, id, events)
	}
	check(t, events...)
}

// P9.1

func TestExample(t *testing.T) {
	events := []api.Event{joins("$a", "@a:s"), leaves("$b", "@a:s", "$a"), joins("$c", "@a:s", "$b")}
	for i, is := range []bool{false, true, false, true} {
		d := dagOf(t, events[:i]...)
		if member.Joined(d, "@a:s") != is || member.In(d, "s") != is {
			t.Errorf("behind %d steps: Joined = %v, In = %v, not %v", i, member.Joined(d, "@a:s"), member.In(d, "s"), is)
		}
		check(t, events[:i]...)
	}
}

func TestWithoutEvents(t *testing.T) {
	for _, of := range []string{room, "", "s", "@a:s", "\xff"} {
		d := dag.New(of)
		if fault := wrong(d, nil, strangers()...); fault != "" {
			t.Errorf("%s of New(%q)", fault, of)
		}
		if e, is := member.Last(d, ""); is || !same(e, api.Event{}) || len(e.Parents) != 0 {
			t.Errorf("Last = %#v, %v of New(%q)", e, is, of)
		}
	}
}

// TestLastIsTheWholeEvent: all fields are told.
func TestLastIsTheWholeEvent(t *testing.T) {
	long := "$" + strings.Repeat("Z", 16)
	events := []api.Event{says("$a", "@a:s"), says("$b", "@b:t"), says("$c", "@a:s"), says("$d", "@b:t"), joins(long, "@b:t", "$a", "$b", "$c", "$d"), leaves("$e", "@a:s", "$a")}
	d := dagOf(t, events...)
	want := api.Event{ID: long, Room: room, Parents: []string{"$a", "$b", "$c", "$d"}, User: "@b:t", Does: api.Joins}
	if e, is := member.Last(d, "@b:t"); !is || !same(e, want) {
		t.Errorf("%#v, %v", e, is)
	}
	want = api.Event{ID: "$e", Room: room, Parents: []string{"$a"}, User: "@a:s", Does: api.Leaves}
	if e, is := member.Last(d, "@a:s"); !is || !same(e, want) {
		t.Errorf("%#v, %v", e, is)
	}
	check(t, events...)
}

// TestMessagesAreNoSteps: who says something is joined by it as little as who has left; of who is joined it changes nothing.
func TestMessagesAreNoSteps(t *testing.T) {
	thread := func(id, user, of string, parents ...string) api.Event {
		e := says(id, user, parents...)
		e.Thread = of
		return e
	}
	checkUsers(t, []api.Event{says("$a", "@a:s")})
	checkUsers(t, []api.Event{says("$a", "@a:s"), thread("$b", "@a:s", "$a", "$a")})
	checkUsers(t, []api.Event{says("$a", "@a:s"), joins("$b", "@b:t", "$a"), says("$c", "@a:s", "$b")}, "@b:t")
	behind := []api.Event{joins("$a", "@a:s"), says("$b", "@a:s", "$a"), thread("$c", "@a:s", "$b", "$b")}
	checkUsers(t, behind, "@a:s")
	checkLast(t, behind, "@a:s", "$a")
	left := []api.Event{joins("$a", "@a:s"), leaves("$b", "@a:s", "$a"), says("$c", "@a:s", "$b")}
	checkUsers(t, left)
	checkLast(t, left, "@a:s", "$b")
	if e, is := member.Last(dagOf(t, says("$a", "@a:s")), "@a:s"); is || !same(e, api.Event{}) {
		t.Errorf("Last of who only says something = %#v, %v", e, is)
	}
}

// TestWhoHasLeft: the last step is told of them too; who leaves without having joined is not joined.
func TestWhoHasLeft(t *testing.T) {
	only := []api.Event{leaves("$a", "@a:s")}
	checkUsers(t, only)
	checkLast(t, only, "@a:s", "$a")
	twice := []api.Event{joins("$a", "@a:s"), leaves("$b", "@a:s", "$a"), leaves("$c", "@a:s", "$b"), joins("$d", "@b:s", "$c")}
	checkUsers(t, twice, "@b:s")
	checkLast(t, twice, "@a:s", "$c")
}

func TestWhoJoinsTwice(t *testing.T) {
	twice := []api.Event{joins("$a", "@a:s"), joins("$b", "@a:s", "$a")}
	checkUsers(t, twice, "@a:s")
	checkLast(t, twice, "@a:s", "$b")
	checkUsers(t, append(twice, leaves("$c", "@a:s", "$b")))
}

// TestTheGreatestPosition: by depth, whatever the IDs, and by IDs of one depth, byte by byte.
func TestTheGreatestPosition(t *testing.T) {
	deeper := []api.Event{joins("$z", "@a:s"), leaves("$a", "@a:s", "$z")}
	checkUsers(t, deeper)
	checkLast(t, deeper, "@a:s", "$a")
	// Of events that are apart, the deeper one counts, though it came ahead of the other one.
	apart := []api.Event{says("$a", "@b:t"), joins("$b", "@a:s", "$a"), leaves("$z", "@a:s")}
	checkUsers(t, apart, "@a:s")
	checkLast(t, apart, "@a:s", "$b")
	rising := []string{"$-", "$0", "$00", "$1", "$10", "$9", "$A", "$Z", "$_", "$a", "$a-", "$aa", "$b"}
	for i, less := range rising {
		for _, more := range rising[i+1:] {
			for _, events := range [][]api.Event{
				{joins(less, "@a:s"), leaves(more, "@a:s")},
				{leaves(more, "@a:s"), joins(less, "@a:s")},
				{says("$x", "@a:s"), joins(less, "@a:s", "$x"), leaves(more, "@a:s", "$x")},
			} {
				checkUsers(t, events)
				checkLast(t, events, "@a:s", more)
			}
			for _, events := range [][]api.Event{
				{leaves(less, "@a:s"), joins(more, "@a:s")},
				{joins(more, "@a:s"), leaves(less, "@a:s")},
			} {
				checkUsers(t, events, "@a:s")
				checkLast(t, events, "@a:s", more)
			}
		}
	}
}

// TestDepthIsANumber: 10 is more than 9, and 100 than 99.
func TestDepthIsANumber(t *testing.T) {
	events := []api.Event{says("$0", "@b:t")}
	for i := 1; i <= 130; i++ {
		does := api.Joins + i%2
		events = append(events, step(fmt.Sprintf("$%d", i), "@a:s", does, fmt.Sprintf("$%d", i-1)))
		checkLast(t, events, "@a:s", fmt.Sprintf("$%d", i))
		if member.Joined(dagOf(t, events...), "@a:s") != (does == api.Joins) {
			t.Errorf("behind %d steps", i)
		}
	}
}

// TestUsersRise as whole texts, byte by byte, not by their parts: `-`, `.` and 0 to 9 are less than the colon.
func TestUsersRise(t *testing.T) {
	users := []string{"@-:s", "@.:s", "@0:s", "@a-:s", "@a.b:s", "@a0:s", "@a:a", "@a:a-a", "@a:a.a", "@a:aa", "@a:b", "@a_:s", "@aa:s", "@b:a", "@z:0", "@zzzzzzzzzzzzzzzz:zzzzzzzzzzzzzzzz"}
	random := rand.New(rand.NewSource(1))
	for range 50 {
		var events []api.Event
		for i, at := range random.Perm(len(users)) {
			events = append(events, joins(fmt.Sprintf("$%d", i), users[at]))
		}
		checkUsers(t, events, users...)
	}
}

// TestUsersOfOnePart: the same part at another server is another user.
func TestUsersOfOnePart(t *testing.T) {
	events := []api.Event{joins("$a", "@a:s"), joins("$b", "@a:t"), leaves("$c", "@a:s", "$a", "$b")}
	checkUsers(t, events, "@a:t")
	checkLast(t, events, "@a:s", "$c")
	checkLast(t, events, "@a:t", "$b")
}

// TestTextsThatAreNoUsers: nothing is told of them, not even where a user's text is near.
func TestTextsThatAreNoUsers(t *testing.T) {
	d := dagOf(t, joins("$a", "@a:s"), joins("$b", "@b:t"))
	for _, text := range strangers() {
		if e, is := member.Last(d, text); is || !same(e, api.Event{}) || member.Joined(d, text) {
			t.Errorf("Last(%q) = %#v, %v", text, e, is)
		}
	}
}

// P9.2

func TestServersRise(t *testing.T) {
	d := dagOf(t, joins("$a", "@a:z"), joins("$b", "@z:a"), joins("$c", "@b:z"), joins("$d", "@c:a-a"), joins("$e", "@d:a.a"), joins("$f", "@e:a0"), joins("$g", "@f:0"))
	if l := member.Servers(d); !slices.Equal(l, []string{"0", "a", "a-a", "a.a", "a0", "z"}) {
		t.Errorf("Servers = %q", l)
	}
}

// TestServersOfWhoIsJoined: the room's home is in it only by its users, and a server stays while one of its users does.
func TestServersOfWhoIsJoined(t *testing.T) {
	events := []api.Event{joins("$a", "@a:t"), joins("$b", "@b:t", "$a"), says("$c", "@c:s", "$b"), leaves("$d", "@d:u", "$c"), leaves("$e", "@a:t", "$d"), leaves("$f", "@b:t", "$e")}
	for n, want := range [][]string{nil, {"t"}, {"t"}, {"t"}, {"t"}, {"t"}, nil} {
		d := dagOf(t, events[:n]...)
		if l := member.Servers(d); !slices.Equal(l, want) {
			t.Errorf("Servers = %q of %d events, not %q", l, n, want)
		}
		for _, server := range []string{"s", "t", "u"} {
			if member.In(d, server) != slices.Contains(want, server) {
				t.Errorf("In(%q) = %v of %d events", server, member.In(d, server), n)
			}
		}
		check(t, events[:n]...)
	}
}

// TestTextsThatAreNoServers: who is joined, the room and texts near a server are not in it.
func TestTextsThatAreNoServers(t *testing.T) {
	d := dagOf(t, joins("$a", "@a:ab.cd"), joins("$b", "@b:t"))
	for _, text := range []string{"", "@a:ab.cd", ":ab.cd", "@b:t", room, "s", "ab", "cd", "ab.", "ab.c", "b.cd", "ab.cde", "AB.CD", "ab.cd ", "ab.cd\x00", "T", "tt", "$a"} {
		if member.In(d, text) {
			t.Errorf("In(%q)", text)
		}
	}
	if !member.In(d, "ab.cd") || !member.In(d, "t") {
		t.Error("the servers that are in the room")
	}
}

func TestHomesByHand(t *testing.T) {
	long := strings.Repeat("x", 16)
	for _, c := range []struct{ names, homes []string }{
		{nil, nil},
		{[]string{}, nil},
		{[]string{"", "@bad", "$e", "s", "@a:", "@:s", "@a:-s", "@a:s:t", "#a:s", "@A:s", "@a:" + long + "x"}, nil},
		{[]string{"@a:s"}, []string{"s"}},
		{[]string{"!r:s"}, []string{"s"}}, // a room has a home as well
		{[]string{"@a:s", "@a:s", "@b:s", "!r:s"}, []string{"s"}},
		{[]string{"@a:t", "", "@b:s", "@bad", "!c:u"}, []string{"s", "t", "u"}},
		{[]string{"@a:z", "@b:a0", "@c:a.a", "@d:a-a", "@e:a", "@f:0"}, []string{"0", "a", "a-a", "a.a", "a0", "z"}},
		{[]string{"@" + long + ":" + long}, []string{long}},
	} {
		if l := member.Homes(c.names); !slices.Equal(l, c.homes) {
			t.Errorf("Homes(%q) = %q, not %q", c.names, l, c.homes)
		}
	}
}

// TestHomesOfChance: lists of names and of what is nearly one.
func TestHomesOfChance(t *testing.T) {
	random := rand.New(rand.NewSource(2))
	text := func(bytes string, n int) string {
		b := make([]byte, random.Intn(n))
		for i := range b {
			b[i] = bytes[random.Intn(len(bytes))]
		}
		return string(b)
	}
	found := 0
	for range 20000 {
		names := make([]string, random.Intn(12))
		for i := range names {
			names[i] = text("@@@@!!$", 3) + text("ab0._-A", 5) + text(":::;", 3) + text("ab0.-", 4)
		}
		want := homes(names)
		if l := member.Homes(names); !slices.Equal(l, want) {
			t.Fatalf("Homes(%q) = %q, not %q", names, l, want)
		}
		found += len(want)
	}
	if found < 1000 {
		t.Errorf("only %d homes were found", found)
	}
}

// TestHomesOfMany: a long list, each home once.
func TestHomesOfMany(t *testing.T) {
	var names, want []string
	for i := range 20000 {
		names = append(names, fmt.Sprintf("@u%d:h%d", i, i*7%1000))
	}
	for i := range 1000 {
		want = append(want, fmt.Sprintf("h%d", i))
	}
	if l := member.Homes(names); !slices.Equal(l, sorted(want)) {
		t.Errorf("%d homes: %q", len(l), l)
	}
}

// P9.1, P9.2: all, held against the model

// permutations are all rows of n texts.
func permutations(texts []string) [][]string {
	if len(texts) == 0 {
		return [][]string{nil}
	}
	var rows [][]string
	for i, text := range texts {
		rest := slices.Concat(texts[:i], texts[i+1:])
		for _, row := range permutations(rest) {
			rows = append(rows, append([]string{text}, row...))
		}
	}
	return rows
}

// eachDag tells all dags of events with these IDs, in their row, by these users, who do these things.
func eachDag(ids, users []string, does []int, tell func(events []api.Event)) {
	var add func(events []api.Event)
	add = func(events []api.Event) {
		n := len(events)
		if n == len(ids) {
			tell(events)
			return
		}
		for behind := range 1 << n {
			var parents []string
			for i := range n {
				if behind>>i&1 == 1 {
					parents = append(parents, ids[i])
				}
			}
			for _, user := range users {
				for _, do := range does {
					add(append(events[:n:n], step(ids[n], user, do, parents...)))
				}
			}
		}
	}
	add(nil)
}

func TestEverySmallDag(t *testing.T) {
	dags := 0
	held := func(events []api.Event) {
		dags++
		if fault := wrong(dagOf(t, events...), events, "", "s", "t", "@c:s"); fault != "" {
			t.Fatalf("%s\nof %#v", fault, events)
		}
	}
	users := []string{"@a:s", "@b:t"}
	for n := range 4 {
		for _, ids := range permutations([]string{"$a", "$B", "$10"}[:n]) {
			eachDag(ids, users, []int{api.Message, api.Joins, api.Leaves}, held)
		}
	}
	for _, ids := range [][]string{{"$a", "$b", "$c", "$d"}, {"$d", "$c", "$b", "$a"}, {"$b", "$d", "$a", "$c"}} {
		eachDag(ids, users, []int{api.Joins, api.Leaves}, held)
	}
	if dags < 50000 {
		t.Errorf("only %d dags", dags)
	}
}

// chance is n events of some users, each behind some of the last ones ahead of it.
func chance(random *rand.Rand, n, users, back int) []api.Event {
	var events []api.Event
	for i, at := range random.Perm(n) {
		var parents []string
		for range random.Intn(api.MaxParents + 1) {
			if i > 0 {
				p := events[i-1-random.Intn(min(i, back))].ID
				if !slices.Contains(parents, p) {
					parents = append(parents, p)
				}
			}
		}
		who := random.Intn(users)
		user := fmt.Sprintf("@u%d:h%d", who, who*who%5)
		events = append(events, step(fmt.Sprintf("$%d", at), user, random.Intn(3), parents...))
	}
	return threaded(random, events)
}

// threaded lets some messages be of others' threads.
func threaded(random *rand.Rand, events []api.Event) []api.Event {
	for i := range events {
		first := events[random.Intn(i+1)]
		if first.ID != events[i].ID && first.Thread == "" && first.Does == api.Message && events[i].Does == api.Message {
			events[i].Thread = first.ID
		}
	}
	return events
}

func TestDagsOfChance(t *testing.T) {
	random := rand.New(rand.NewSource(3))
	for range 2000 {
		events := chance(random, random.Intn(25), 1+random.Intn(6), 1+random.Intn(10))
		if fault := wrong(dagOf(t, events...), events, strangers()...); fault != "" {
			t.Fatalf("%s\nof %#v", fault, events)
		}
	}
}

func TestGreatDagsOfChance(t *testing.T) {
	random := rand.New(rand.NewSource(4))
	for range 6 {
		events := chance(random, 150, 30, 1+random.Intn(40))
		if fault := wrong(dagOf(t, events...), events, strangers()...); fault != "" {
			t.Fatalf("%s\nof %#v", fault, events)
		}
	}
}

// TestModelsDepths: the model's two ways to tell depths are one.
func TestModelsDepths(t *testing.T) {
	random := rand.New(rand.NewSource(5))
	for range 50 {
		m := model(chance(random, 12, 3, 5))
		depths := m.depths()
		for _, e := range m {
			if depths[e.ID] != m.depth(e.ID) {
				t.Fatalf("%s: %d, %d", e.ID, depths[e.ID], m.depth(e.ID))
			}
		}
	}
}

// TestManyUsers: thousands join, and each second one leaves.
func TestManyUsers(t *testing.T) {
	var events []api.Event
	var stay, servers []string
	for i := range 3000 {
		user := fmt.Sprintf("@u%d:h%d", i, i%250)
		events = append(events, joins(fmt.Sprintf("$j%d", i), user))
		if i%2 == 1 {
			events = append(events, leaves(fmt.Sprintf("$l%d", i), user, fmt.Sprintf("$j%d", i)))
			continue
		}
		stay = append(stay, user)
		servers = append(servers, fmt.Sprintf("h%d", i%250))
	}
	d := dagOf(t, events...)
	if l := member.Users(d); !slices.Equal(l, sorted(stay)) {
		t.Errorf("%d users", len(l))
	}
	if l := member.Servers(d); !slices.Equal(l, sorted(servers)) {
		t.Errorf("%d servers", len(l))
	}
}

// TestAtEachStep: one dag is asked as it grows; nothing of an earlier answer stays.
func TestAtEachStep(t *testing.T) {
	random := rand.New(rand.NewSource(6))
	for range 40 {
		events := chance(random, 30, 4, 6)
		d := dag.New(room)
		for i, e := range events {
			if errno := d.Add(e); errno != api.OK {
				t.Fatal(errno)
			}
			if fault := wrong(d, events[:i+1], "@none:s", "s"); fault != "" {
				t.Fatalf("%s\nof %#v", fault, events[:i+1])
			}
		}
	}
}

// TestARefusedStepIsNone: what the dag refuses changes nobody.
func TestARefusedStepIsNone(t *testing.T) {
	d := dagOf(t, joins("$a", "@a:s"))
	for _, e := range []api.Event{leaves("$a", "@a:s"), leaves("$b", "@a:s", "$none"), leaves("", "@a:s"), {ID: "$c", Room: "!q:s", User: "@a:s", Does: api.Leaves}, step("$d", "@a:s", 3, "$a"), step("$e", "@a:s", -1, "$a")} {
		if d.Add(e) == api.OK {
			t.Errorf("the dag takes %#v", e)
		}
	}
	if fault := wrong(d, model{joins("$a", "@a:s")}, strangers()...); fault != "" {
		t.Error(fault)
	}
}

// TestAskingChangesNothing in the dag, and answers the same again.
func TestAskingChangesNothing(t *testing.T) {
	events := chance(rand.New(rand.NewSource(7)), 40, 6, 8)
	d := dagOf(t, events...)
	before := fmt.Sprintf("%#v %q %v", d.All(), d.Heads(), d.Len())
	for range 3 {
		if fault := wrong(d, events, strangers()...); fault != "" {
			t.Error(fault)
		}
		if now := fmt.Sprintf("%#v %q %v", d.All(), d.Heads(), d.Len()); now != before {
			t.Errorf("the dag is %s, not %s", now, before)
		}
	}
}

func TestDagsAreApart(t *testing.T) {
	a, b := dagOf(t, joins("$a", "@a:s")), dagOf(t, leaves("$a", "@a:s"), joins("$b", "@b:t"))
	for range 2 {
		if fault := wrong(a, model{joins("$a", "@a:s")}, "@b:t", "t"); fault != "" {
			t.Error(fault)
		}
		if fault := wrong(b, model{leaves("$a", "@a:s"), joins("$b", "@b:t")}, "s"); fault != "" {
			t.Error(fault)
		}
	}
}

// What is answered is new memory, and what is handed in is left as it is.

func TestAnswersMayBeChanged(t *testing.T) {
	events := []api.Event{joins("$a", "@a:s"), joins("$b", "@b:t", "$a"), joins("$c", "@c:u", "$a", "$b")}
	d := dagOf(t, events...)
	spoil := func(l []string) {
		for i := range l[:cap(l)] {
			l[:cap(l)][i] = "spoilt"
		}
	}
	for range 3 {
		if fault := wrong(d, events); fault != "" {
			t.Fatal(fault)
		}
		spoil(member.Users(d))
		spoil(member.Servers(d))
		e, _ := member.Last(d, "@c:u")
		spoil(e.Parents)
	}
}

func TestHomesLeavesItsListAsItIs(t *testing.T) {
	whole := []string{"@b:t", "@a:s", "", "@b:t", "spare", "room"}
	want := slices.Clone(whole)
	names := whole[:4]
	l := member.Homes(names)
	if !slices.Equal(whole, want) {
		t.Errorf("the list is %q", whole)
	}
	for i := range l[:cap(l)] {
		l[:cap(l)][i] = "spoilt"
	}
	if !slices.Equal(whole, want) {
		t.Errorf("the list is %q", whole)
	}
	l = member.Homes(names)
	names[0], names[1] = "@b:x", "@b:y"
	if !slices.Equal(l, []string{"s", "t"}) {
		t.Errorf("the homes are %q", l)
	}
}

// TestTextsHandedInMayBecomeOthers: no answer holds on to their bytes.
func TestTextsHandedInMayBecomeOthers(t *testing.T) {
	bytes := []byte("@a:s")
	asked := unsafe.String(&bytes[0], len(bytes))
	d := dagOf(t, joins("$a", "@a:s"), joins("$b", "@b:t", "$a"))
	homes := member.Homes([]string{asked, "@b:t"})
	e, is := member.Last(d, asked)
	copy(bytes, "!qqq")
	if !slices.Equal(homes, []string{"s", "t"}) {
		t.Errorf("the homes are %q", homes)
	}
	if !is || !same(e, joins("$a", "@a:s")) {
		t.Errorf("the last step is %#v, %v", e, is)
	}
}

// TestNoTextIsShared between two answers, or an answer and what was handed in.
func TestNoTextIsShared(t *testing.T) {
	events := chance(rand.New(rand.NewSource(8)), 60, 8, 8)
	d := dagOf(t, events...)
	texts := map[*byte]string{}
	note := func(called string, l ...string) {
		for _, s := range l {
			if s == "" {
				continue
			}
			at := unsafe.StringData(s)
			if first, is := texts[at]; is {
				t.Fatalf("%s and %s share the text %q", called, first, s)
			}
			texts[at] = called
		}
	}
	var kept []any // so that no text's memory is used again
	for _, e := range events {
		note("an event handed in", e.ID, e.User)
	}
	for range 3 {
		users, servers := member.Users(d), member.Servers(d)
		note("Users", users...)
		note("Servers", servers...)
		homes := member.Homes(users)
		note("Homes", homes...)
		kept = append(kept, users, servers, homes)
		for _, user := range users {
			e, _ := member.Last(d, user)
			note("Last", e.ID, e.Room, e.User)
			note("Last's Parents", e.Parents...)
			kept = append(kept, e)
		}
	}
	if len(kept) == 0 || len(texts) < 60 {
		t.Fatalf("only %d texts", len(texts))
	}
}

// P9.3

// shuffled is a row of the same events, each behind its Parents and its Thread.
func shuffled(random *rand.Rand, events []api.Event) []api.Event {
	var row []api.Event
	there := map[string]bool{"": true}
	for len(row) < len(events) {
		e := events[random.Intn(len(events))]
		ready := !there[e.ID] && there[e.Thread]
		for _, p := range e.Parents {
			ready = ready && there[p]
		}
		if ready {
			row = append(row, e)
			there[e.ID] = true
		}
	}
	return row
}

// told is all that a dag tells of who is in the room.
func told(d *dag.Dag, events []api.Event) string {
	var b strings.Builder
	fmt.Fprintf(&b, "%q %q", member.Users(d), member.Servers(d))
	for _, e := range events {
		last, is := member.Last(d, e.User)
		fmt.Fprintf(&b, " %s %v %v", show(last), is, member.Joined(d, e.User))
	}
	return b.String()
}

func TestAllRowsTellTheSame(t *testing.T) {
	events := []api.Event{joins("$c", "@a:s"), leaves("$b", "@a:s"), joins("$a", "@b:t"), leaves("$e", "@b:t"), joins("$d", "@b:t"), says("$f", "@c:u")}
	ids := make([]string, len(events))
	byID := map[string]api.Event{}
	for i, e := range events {
		ids[i], byID[e.ID] = e.ID, e
	}
	want := told(dagOf(t, events...), events)
	for _, row := range permutations(ids) {
		d := dag.New(room)
		for _, id := range row {
			d.Add(byID[id])
		}
		if got := told(d, events); got != want {
			t.Fatalf("in the row %q: %s, not %s", row, got, want)
		}
	}
	checkUsers(t, events, "@a:s")
}

func TestRowsOfChanceTellTheSame(t *testing.T) {
	random := rand.New(rand.NewSource(9))
	for range 100 {
		events := chance(random, 25, 4, 12)
		want := told(dagOf(t, events...), events)
		for range 8 {
			row := shuffled(random, events)
			if got := told(dagOf(t, row...), events); got != want {
				t.Fatalf("%s, not %s\nof %#v", got, want, row)
			}
		}
	}
}

// TestALateStepAhead: a step that comes last, but stands ahead, changes nothing.
func TestALateStepAhead(t *testing.T) {
	early := []api.Event{says("$a", "@b:t"), joins("$b", "@a:s", "$a")}
	checkUsers(t, append(slices.Clone(early), leaves("$z", "@a:s")), "@a:s")
	checkUsers(t, append(slices.Clone(early), leaves("$c", "@a:s", "$a")))
	checkUsers(t, append(slices.Clone(early), leaves("$A", "@a:s", "$a")), "@a:s")
}
