package dag_test

import (
	"fmt"
	"math"
	"math/rand"
	"regexp"
	"slices"
	"strings"
	"testing"
	"unsafe"

	"concourse/api"
	"concourse/dag"
)

// What things are called, as patterns.
var (
	eventPattern  = regexp.MustCompile(`\A\$[a-zA-Z0-9_-]{1,16}\z`)
	roomPattern   = regexp.MustCompile(`\A![a-z0-9._-]{1,16}:` + serverPattern + `\z`)
	userPattern   = regexp.MustCompile(`\A@[a-z0-9._-]{1,16}:` + serverPattern + `\z`)
	serverPattern = `(?:[a-z0-9]|[a-z0-9][a-z0-9.-]{0,14}[a-z0-9])`
)

// modelMay is whether an event may be, word by word.
func modelMay(e api.Event) bool {
	if !eventPattern.MatchString(e.ID) || !roomPattern.MatchString(e.Room) || !userPattern.MatchString(e.User) {
		return false
	}
	if len(e.Parents) > 4 {
		return false
	}
	for i, p := range e.Parents {
		if !eventPattern.MatchString(p) || p == e.ID {
			return false
		}
		if i > 0 && slices.Compare([]byte(e.Parents[i-1]), []byte(p)) >= 0 {
			return false
		}
	}
	if e.Does != 0 && e.Does != 1 && e.Does != 2 {
		return false
	}
	if e.Thread == "" {
		return true
	}
	return e.Does == 0 && eventPattern.MatchString(e.Thread) && e.Thread != e.ID
}

// model is a dag by the chapter's words: a plain list of events as they came, gone through whenever something is asked.
type model struct {
	room   string
	events []api.Event
}

// whole is an event's copy that nobody else has a hand on.
func whole(e api.Event) api.Event {
	e.Parents = slices.Clone(e.Parents)
	return e
}

func (m *model) event(id string) (api.Event, bool) {
	for _, e := range m.events {
		if e.ID == id {
			return e, true
		}
	}
	return api.Event{}, false
}

func (m *model) has(id string) bool {
	_, is := m.event(id)
	return is
}

func (m *model) refusal(e api.Event) api.Errno {
	if !modelMay(e) || e.Room != m.room {
		return api.ErrArg
	}
	if m.has(e.ID) {
		return api.ErrTwice
	}
	for _, p := range e.Parents {
		if !m.has(p) {
			return api.ErrUnknown
		}
	}
	if e.Thread != "" {
		first, is := m.event(e.Thread)
		if !is {
			return api.ErrUnknown
		}
		if first.Thread != "" || first.Does != 0 {
			return api.ErrThread
		}
	}
	return api.OK
}

func (m *model) add(e api.Event) api.Errno {
	errno := m.refusal(e)
	if errno == api.OK {
		m.events = append(m.events, whole(e))
	}
	return errno
}

// depths are those of all events; each one's Parents came ahead of it.
func (m *model) depths() map[string]int {
	depths := map[string]int{}
	for _, e := range m.events {
		depth := 0
		for _, p := range e.Parents {
			depth = max(depth, depths[p]+1)
		}
		depths[e.ID] = depth
	}
	return depths
}

func (m *model) all() []api.Event {
	depths := m.depths()
	return slices.SortedFunc(slices.Values(m.events), func(a, b api.Event) int {
		if depths[a.ID] != depths[b.ID] {
			return depths[a.ID] - depths[b.ID]
		}
		return slices.Compare([]byte(a.ID), []byte(b.ID))
	})
}

func (m *model) heads() []string {
	var heads []string
	for _, e := range m.all() {
		if !slices.ContainsFunc(m.events, func(f api.Event) bool { return slices.Contains(f.Parents, e.ID) }) {
			heads = append(heads, e.ID)
		}
	}
	return heads
}

// same is whether all fields of two events are, by their printed forms: nil and empty Parents print alike with %q.
func same(a, b api.Event) bool { return show(a) == show(b) }

func show(e api.Event) string {
	return fmt.Sprintf("%q %q %q %q %q %d", e.ID, e.Room, e.Parents, e.Thread, e.User, e.Does)
}

func showAll(l []api.Event) string {
	var lines []string
	for _, e := range l {
		lines = append(lines, show(e))
	}
	return strings.Join(lines, "\n")
}

// wrong tells what a dag answers otherwise than its model does, asked of all, and of some IDs beside those of its events.
func wrong(d *dag.Dag, m *model, ids ...string) string {
	if got := d.Room(); got != m.room {
		return fmt.Sprintf("Room is %q, want %q", got, m.room)
	}
	if got := d.Len(); got != len(m.events) {
		return fmt.Sprintf("Len is %d, want %d", got, len(m.events))
	}
	if got, want := showAll(d.All()), showAll(m.all()); got != want {
		return fmt.Sprintf("All is\n%s\nwant\n%s", got, want)
	}
	if got, want := d.Heads(), m.heads(); !slices.Equal(got, want) {
		return fmt.Sprintf("Heads is %q, want %q", got, want)
	}
	depths := m.depths()
	for _, e := range m.events {
		ids = append(ids, e.ID)
	}
	for _, id := range ids {
		want, there := m.event(id)
		if is := d.Has(id); is != there {
			return fmt.Sprintf("Has(%q) is %v", id, is)
		}
		if got, is := d.Event(id); is != there || !same(got, want) {
			return fmt.Sprintf("Event(%q) is %s, %v, want %s, %v", id, show(got), is, show(want), there)
		}
		at := api.Position{}
		if there {
			at = api.Position{Depth: depths[id], ID: id}
		}
		if got, is := d.Position(id); is != there || got != at {
			return fmt.Sprintf("Position(%q) is %#v, %v, want %#v, %v", id, got, is, at, there)
		}
	}
	return ""
}

// follow adds events to a dag and to its model, and holds all that both tell behind each against the other.
func follow(t *testing.T, room string, events ...api.Event) (*dag.Dag, *model) {
	t.Helper()
	ids := []string{"", "$", "a", "$?"}
	for _, e := range events {
		ids = append(append(append(ids, e.ID), e.Parents...), e.Thread)
	}
	d, m := dag.New(room), &model{room: room}
	for i, e := range events {
		got, want := d.Add(e), m.add(e)
		if got != want {
			t.Fatalf("%s\nAdd of event %d is %v, want %v", showAll(events), i, got, want)
		}
		if is := wrong(d, m, ids...); is != "" {
			t.Fatalf("%s\nbehind event %d: %s", showAll(events), i, is)
		}
	}
	return d, m
}

// with is an event that is changed in one way.
func with(e api.Event, change func(e *api.Event)) api.Event {
	e = whole(e)
	change(&e)
	return e
}

// says is a message of @a:s in !r:s.
func says(id string, parents ...string) api.Event {
	return api.Event{ID: id, Room: "!r:s", Parents: parents, User: "@a:s"}
}

func answers(id, thread string, parents ...string) api.Event {
	return with(says(id, parents...), func(e *api.Event) { e.Thread = thread })
}

func joins(id string, parents ...string) api.Event {
	return with(says(id, parents...), func(e *api.Event) { e.Does = api.Joins })
}

func leaves(id string, parents ...string) api.Event {
	return with(says(id, parents...), func(e *api.Event) { e.Does = api.Leaves })
}

// of is a dag of !r:s with these events, all of which may come.
func of(t *testing.T, events ...api.Event) *dag.Dag {
	t.Helper()
	d := dag.New("!r:s")
	for _, e := range events {
		if errno := d.Add(e); errno != api.OK {
			t.Fatalf("Add of %s is %v", show(e), errno)
		}
	}
	return d
}

// some is events with messages, threads, who joins and who leaves, and one event behind four.
func some() []api.Event {
	return []api.Event{
		joins("$j"), says("$a", "$j"), says("$b", "$j"), answers("$c", "$a", "$a"), answers("$d", "$a", "$a", "$b"),
		leaves("$l", "$b"), says("$e", "$a", "$c", "$d", "$l"), answers("$f", "$b"), says("$0"),
	}
}

func checkIs(t *testing.T, d *dag.Dag, events []api.Event) {
	t.Helper()
	m := &model{room: "!r:s"}
	for _, e := range events {
		if errno := m.add(e); errno != api.OK {
			t.Fatalf("the model's Add of %s is %v", show(e), errno)
		}
	}
	if is := wrong(d, m, "", "$?", "$z"); is != "" {
		t.Error(is)
	}
}

func checkAdd(t *testing.T, d *dag.Dag, e api.Event, want api.Errno) {
	t.Helper()
	if errno := d.Add(e); errno != want {
		t.Errorf("Add of %s is %v, want %v", show(e), errno, want)
	}
}

func long(n int) string { return strings.Repeat("a", n) }

// P7.1

func TestExample(t *testing.T) {
	d := of(t, says("$a"), says("$b", "$a"), says("$c", "$a"), says("$d", "$b", "$c"))
	if at, is := d.Position("$d"); !is || at != (api.Position{Depth: 2, ID: "$d"}) {
		t.Errorf("%#v, %v", at, is)
	}
	if heads := d.Heads(); !slices.Equal(heads, []string{"$d"}) {
		t.Errorf("%q", heads)
	}
}

// TestMayOfEachEdge: every event of chosen values of its fields.
func TestMayOfEachEdge(t *testing.T) {
	ids := []string{"$b", "$B_-9", "$" + long(16), "", "b", "$", "$" + long(17), "$b.", "$b:s", "@b:s", "$b\n", "$\u00e9", "$\xff", " $b"}
	rooms := []string{"!r:s", "!" + long(16) + ":" + long(16), "", "!r", "r:s", "@r:s", "!:s", "!r:", "!R:s", "!r:s:", "!r:s\n"}
	users := []string{"@a:s", "@a.b-c_d:s.t", "", "@a", "a:s", "!a:s", "@:s", "@a:-", "@A:s", "@" + long(17) + ":s"}
	threads := []string{"", "$t", "$b", "$" + long(16), "main", "t", "$", "$t ", "$" + long(17)}
	parents := [][]string{
		nil, {}, {"$a"}, {"$b"}, {"$t"}, {""}, {"a"}, {"$"}, {"$a", "$b"}, {"$a", "$c"}, {"$c", "$a"}, {"$a", "$a"},
		{"$1", "$2", "$3", "$4"}, {"$1", "$2", "$4", "$3"}, {"$1", "$2", "$3", "$4", "$5"},
	}
	does := []int{0, 1, 2, 3, -1, math.MinInt, math.MaxInt, 1 << 32, 4}
	many, right := 0, 0
	for _, id := range ids {
		for _, room := range rooms {
			for _, user := range users {
				for _, thread := range threads {
					for _, of := range parents {
						for _, do := range does {
							e := api.Event{ID: id, Room: room, Parents: of, Thread: thread, User: user, Does: do}
							many++
							if modelMayQuick(e) != dag.May(e) {
								t.Fatalf("May of %s is %v", show(e), dag.May(e))
							}
							if dag.May(e) {
								right++
							}
						}
					}
				}
			}
		}
	}
	if right < 100 || right == many {
		t.Errorf("%d of %d may be", right, many)
	}
}

// modelMayQuick asks for the names of an event only where its other fields may be, as patterns are slow.
func modelMayQuick(e api.Event) bool {
	if e.Does < 0 || e.Does > 2 || len(e.Parents) > 4 || e.Thread != "" && e.Does != 0 {
		return false
	}
	return modelMay(e)
}

// TestMayOfParents: every list of up to five of six texts.
func TestMayOfParents(t *testing.T) {
	texts := []string{"$a", "$b", "$B", "$aa", "$own", "x"}
	var try func(parents []string)
	try = func(parents []string) {
		e := says("$own", parents...)
		if dag.May(e) != modelMay(e) {
			t.Fatalf("May of %s is %v", show(e), dag.May(e))
		}
		if len(parents) < 5 {
			for _, p := range texts {
				try(append(slices.Clone(parents), p))
			}
		}
	}
	try(nil)
}

func TestMayByHand(t *testing.T) {
	four := []string{"$1", "$2", "$3", "$4"}
	for _, c := range []struct {
		what string
		e    api.Event
		want bool
	}{
		{"no Parents", says("$e"), true},
		{"empty Parents", with(says("$e"), func(e *api.Event) { e.Parents = []string{} }), true},
		{"one", says("$e", "$1"), true},
		{"four", says("$e", four...), true},
		{"five", says("$e", append(slices.Clone(four), "$5")...), false},
		{"not rising", says("$e", "$2", "$1"), false},
		{"not rising at the end", says("$e", "$1", "$2", "$4", "$3"), false},
		{"rising as bytes, not by case", says("$e", "$B", "$a"), true},
		{"falling as bytes", says("$e", "$a", "$B"), false},
		{"a longer one behind", says("$e", "$1", "$10", "$2"), true},
		{"one twice", says("$e", "$1", "$1"), false},
		{"one twice, last", says("$e", "$1", "$2", "$2"), false},
		{"its own ID", says("$e", "$e"), false},
		{"its own ID among others", says("$e", "$d", "$e", "$f"), false},
		{"a Parent that is no event", says("$e", "e1"), false},
		{"an empty Parent", says("$e", ""), false},
		{"an empty Parent ahead", says("$e", "", "$1"), false},
		{"Message", with(says("$e"), func(e *api.Event) { e.Does = 0 }), true},
		{"Joins", with(says("$e"), func(e *api.Event) { e.Does = 1 }), true},
		{"Leaves", with(says("$e"), func(e *api.Event) { e.Does = 2 }), true},
		{"Does 3", with(says("$e"), func(e *api.Event) { e.Does = 3 }), false},
		{"Does -1", with(says("$e"), func(e *api.Event) { e.Does = -1 }), false},
		{"a Thread", answers("$e", "$t"), true},
		{"a Thread that is a Parent", answers("$e", "$t", "$t"), true},
		{"a Thread of its own ID", answers("$e", "$e"), false},
		{"a Thread main", answers("$e", "main"), false},
		{"a Thread that is no event", answers("$e", "t"), false},
		{"a Thread of who joins", with(joins("$e"), func(e *api.Event) { e.Thread = "$t" }), false},
		{"a Thread of who leaves", with(leaves("$e"), func(e *api.Event) { e.Thread = "$t" }), false},
		{"no ID", says(""), false},
		{"no Room", with(says("$e"), func(e *api.Event) { e.Room = "" }), false},
		{"a user as Room", with(says("$e"), func(e *api.Event) { e.Room = "@a:s" }), false},
		{"no User", with(says("$e"), func(e *api.Event) { e.User = "" }), false},
		{"a room as User", with(says("$e"), func(e *api.Event) { e.User = "!r:s" }), false},
		{"a user of another home", with(says("$e"), func(e *api.Event) { e.User = "@a:other" }), true},
		{"nothing", api.Event{}, false},
	} {
		if got := dag.May(c.e); got != c.want || modelMay(c.e) != c.want {
			t.Errorf("%s: May of %s is %v", c.what, show(c.e), got)
		}
		d := of(t, says("$1"), says("$10"), says("$2"), says("$3"), says("$4"), says("$5"), says("$B"), says("$a"), says("$d"), says("$f"), says("$t"))
		want := api.ErrArg
		if c.want {
			want = api.OK
		}
		if got := d.Add(c.e); got != want {
			t.Errorf("%s: Add of %s is %v, want %v", c.what, show(c.e), got, want)
		}
	}
}

// TestNewOfAnyText: a text that is no room has a dag, into which no event may come.
func TestNewOfAnyText(t *testing.T) {
	for _, room := range []string{"", "!", "!r", "r:s", "@a:s", "$a", "!R:s", "!r:s ", "\xff", "!r:s", "!q:s", "!" + long(16) + ":" + long(16), long(100000)} {
		m := &model{room: room}
		d := dag.New(room)
		if is := wrong(d, m, "", "$a", room); is != "" {
			t.Errorf("%q: %s", room, is)
		}
		for _, other := range []string{room, "", "!r:s", "!r:t", "!s:r", "!r:s ", "!q:s"} {
			e := with(says("$a"), func(e *api.Event) { e.Room = other })
			if got, want := d.Add(e), m.add(e); got != want {
				t.Errorf("%q: Add of %s is %v, want %v", room, show(e), got, want)
			}
			if is := wrong(d, m, "", "$a", room); is != "" {
				t.Errorf("%q: %s", room, is)
			}
		}
	}
}

func TestWithoutEvents(t *testing.T) {
	d := dag.New("!r:s")
	if d.Len() != 0 || len(d.All()) != 0 || len(d.Heads()) != 0 || d.Room() != "!r:s" {
		t.Errorf("%d %v %q %q", d.Len(), d.All(), d.Heads(), d.Room())
	}
	for _, id := range []string{"", "$a", "main", "!r:s", "\x00"} {
		e, is := d.Event(id)
		at, isAt := d.Position(id)
		if is || isAt || d.Has(id) || !same(e, api.Event{}) || e.Parents != nil || at != (api.Position{}) {
			t.Errorf("%q: %s, %v, %v, %v", id, show(e), is, at, isAt)
		}
	}
	checkAdd(t, d, says("$b", "$a"), api.ErrUnknown)
	checkAdd(t, d, answers("$b", "$a"), api.ErrUnknown)
	checkIs(t, d, nil)
}

// TestAddRefuses: each error, and that a refusal changes nothing.
func TestAddRefuses(t *testing.T) {
	for _, c := range []struct {
		what string
		e    api.Event
		want api.Errno
	}{
		{"may not be", says("e"), api.ErrArg},
		{"of another room", with(says("$e"), func(e *api.Event) { e.Room = "!q:s" }), api.ErrArg},
		{"of another room's home", with(says("$e"), func(e *api.Event) { e.Room = "!r:t" }), api.ErrArg},
		{"one that is there", says("$a", "$j"), api.ErrTwice},
		{"one that is there, but for its fields", leaves("$a"), api.ErrTwice},
		{"a Parent that is not there", says("$z", "$y"), api.ErrUnknown},
		{"a first Parent that is not there", says("$z", "$1", "$a", "$b"), api.ErrUnknown},
		{"a last Parent that is not there", says("$z", "$0", "$a", "$b", "$y"), api.ErrUnknown},
		{"a Parent of another case", says("$z", "$A"), api.ErrUnknown},
		{"a Thread that is not there", answers("$z", "$y", "$a"), api.ErrUnknown},
		{"a Thread with a Thread", answers("$z", "$c"), api.ErrThread},
		{"a Thread with a Thread, which is its Parent", answers("$z", "$c", "$c"), api.ErrThread},
		{"a Thread of who joins", answers("$z", "$j", "$a"), api.ErrThread},
		{"a Thread of who leaves", answers("$z", "$l", "$a"), api.ErrThread},
		{"a Thread that begins one", answers("$z", "$a"), api.OK},
		{"a Thread that is not ahead", answers("$z", "$e", "$j"), api.OK},
	} {
		t.Run(c.what, func(t *testing.T) {
			events := some()
			d := of(t, events...)
			checkAdd(t, d, c.e, c.want)
			if c.want == api.OK {
				events = append(events, c.e)
			}
			checkIs(t, d, events)
			checkAdd(t, d, says("$zz", "$a", "$b"), api.OK)
			checkIs(t, d, append(events, says("$zz", "$a", "$b")))
		})
	}
}

// TestWhichErrorComesFirst: of any faults together the one that the promise names first is told.
func TestWhichErrorComesFirst(t *testing.T) {
	rooms := map[string]api.Errno{"!r:s": api.OK, "!q:s": api.ErrArg, "": api.ErrArg}
	ids := map[string]api.Errno{"$z": api.OK, "$a": api.ErrTwice, "$c": api.ErrTwice, "$j": api.ErrTwice, "z": api.ErrArg}
	parents := []struct {
		of   []string
		want api.Errno
	}{{nil, api.OK}, {[]string{"$b", "$d"}, api.OK}, {[]string{"$b", "$x"}, api.ErrUnknown}, {[]string{"$1", "$b"}, api.ErrUnknown}, {[]string{"$x", "$b"}, api.ErrArg}}
	threads := map[string]api.Errno{"": api.OK, "$b": api.OK, "$x": api.ErrUnknown, "$f": api.ErrThread, "$l": api.ErrThread, "main": api.ErrArg}
	does := map[int]bool{0: true, 1: false, 3: false}
	row := []api.Errno{api.ErrArg, api.ErrTwice, api.ErrUnknown, api.ErrThread}
	told := map[api.Errno]int{}
	for room, ofRoom := range rooms {
		for id, ofID := range ids {
			for _, p := range parents {
				for thread, ofThread := range threads {
					for do, message := range does {
						faults := []api.Errno{ofRoom, ofID, p.want, ofThread}
						if do == 3 || thread != "" && !message {
							faults = append(faults, api.ErrArg)
						}
						want := api.OK
						for _, errno := range slices.Backward(row) {
							if slices.Contains(faults, errno) {
								want = errno
							}
						}
						d := of(t, some()...)
						e := api.Event{ID: id, Room: room, Parents: p.of, Thread: thread, User: "@a:s", Does: do}
						checkAdd(t, d, e, want)
						told[want]++
						if want != api.OK {
							checkIs(t, d, some())
						}
					}
				}
			}
		}
	}
	if len(told) != 5 {
		t.Errorf("%v", told)
	}
}

// TestAddOfAllRows: every row of four events of twelve, of which some are the same, some stand on others, some may not be.
func TestAddOfAllRows(t *testing.T) {
	events := []api.Event{
		says("$a"), joins("$a"), says("$b", "$a"), says("$b"), answers("$c", "$a", "$b"), answers("$c", "$b"), says("$c", "$a", "$b"),
		answers("$d", "$c", "$a"), says("$d", "$b", "$c"), leaves("$A", "$a"), answers("$e", "$A"), says("$a", "$a"),
	}
	row := make([]api.Event, 4)
	var fill func(from int)
	fill = func(from int) {
		if from == len(row) {
			follow(t, "!r:s", row...)
			return
		}
		for _, e := range events {
			row[from] = e
			fill(from + 1)
		}
	}
	fill(0)
}

// TestAddOfChance: long rows of events of few IDs, all errors among what is told.
func TestAddOfChance(t *testing.T) {
	random := rand.New(rand.NewSource(7))
	id := func() string { return "$" + string("aAbB01_-"[random.Intn(8)]) + []string{"", "", "x"}[random.Intn(3)] }
	told := map[api.Errno]int{}
	for range 400 {
		d, m := dag.New("!r:s"), &model{room: "!r:s"}
		for range 60 {
			e := api.Event{ID: id(), Room: "!r:s", User: []string{"@a:s", "@b:t"}[random.Intn(2)], Does: random.Intn(8) - 5}
			e.Does = max(e.Does, 0)
			for range random.Intn(4) {
				e.Parents = append(e.Parents, id())
			}
			if random.Intn(8) > 0 {
				slices.Sort(e.Parents)
				e.Parents = slices.Compact(e.Parents)
			}
			if random.Intn(3) == 0 {
				e.Thread = id()
			}
			if random.Intn(20) == 0 {
				e.Room = "!q:s"
			}
			got, want := d.Add(e), m.add(e)
			told[got]++
			if got != want {
				t.Fatalf("%s\nAdd of %s is %v, want %v", showAll(m.events), show(e), got, want)
			}
			if is := wrong(d, m, id(), id(), "", e.Thread); is != "" {
				t.Fatalf("behind %s: %s", show(e), is)
			}
		}
	}
	for _, errno := range []api.Errno{api.OK, api.ErrArg, api.ErrTwice, api.ErrUnknown, api.ErrThread} {
		if told[errno] < 100 {
			t.Errorf("%v is told only %d times", errno, told[errno])
		}
	}
}

// TestARefusedEventMayComeLater: one that is refused leaves its ID free, and comes when what it stands on is there.
func TestARefusedEventMayComeLater(t *testing.T) {
	follow(t, "!r:s", says("$c", "$a", "$b"), says("$a"), says("$c", "$a", "$b"), says("$b"), says("$c", "$a", "$b"), says("$c", "$a", "$b"))
	follow(t, "!r:s", answers("$c", "$a"), joins("$a"), answers("$c", "$a"), says("$c"), answers("$d", "$c"), answers("$e", "$d"), says("$e"))
}

func TestDagsAreApart(t *testing.T) {
	a, b, other := of(t, some()...), of(t, some()...), dag.New("!q:s")
	checkAdd(t, b, says("$z", "$e"), api.OK)
	checkAdd(t, other, with(says("$y"), func(e *api.Event) { e.Room = "!q:s" }), api.OK)
	checkAdd(t, other, with(says("$x", "$a"), func(e *api.Event) { e.Room = "!q:s" }), api.ErrUnknown)
	checkIs(t, a, some())
	checkIs(t, b, append(some(), says("$z", "$e")))
	if other.Len() != 1 || !slices.Equal(other.Heads(), []string{"$y"}) {
		t.Errorf("%d, %q", other.Len(), other.Heads())
	}
}

// R4

// TestWhatIsHandedInMayBeChanged: its Parents, their spare room, and all its fields.
func TestWhatIsHandedInMayBeChanged(t *testing.T) {
	parents := append(make([]string, 0, 6), "$a", "$b")
	e := with(says("$d"), func(e *api.Event) { e.Thread = "$a" })
	e.Parents = parents
	d := of(t, says("$a"), says("$b", "$a"), e)
	e.ID, e.Room, e.Thread, e.User, e.Does = "$x", "!x:s", "$x", "@x:s", 2
	parents[0], parents[1] = "$x", "$y"
	_ = append(parents, "$z")
	checkIs(t, d, []api.Event{says("$a"), says("$b", "$a"), answers("$d", "$a", "$a", "$b")})
}

// TestWhatIsHandedInIsNotChanged: by Add, May and Same, its Parents' spare room neither.
func TestWhatIsHandedInIsNotChanged(t *testing.T) {
	parents := []string{"$a", "$b", "spare", "room"}
	e := answers("$d", "$a")
	e.Parents = parents[:2]
	d := of(t, says("$a"), says("$b", "$a"))
	dag.May(e)
	dag.Same(e, says("$d", "$b", "$a"))
	for _, want := range []api.Errno{api.OK, api.ErrTwice} {
		checkAdd(t, d, e, want)
	}
	falling := []string{"$b", "$a", "$a"}
	checkAdd(t, d, says("$e", falling...), api.ErrArg)
	if !slices.Equal(parents, []string{"$a", "$b", "spare", "room"}) || !slices.Equal(falling, []string{"$b", "$a", "$a"}) || !same(e, answers("$d", "$a", "$a", "$b")) {
		t.Errorf("%q, %q, %s", parents, falling, show(e))
	}
}

// TestWhatIsToldMayBeChanged: events, their Parents with whatever room is behind them, lists of events and of heads.
func TestWhatIsToldMayBeChanged(t *testing.T) {
	d := of(t, some()...)
	ruin := func(e api.Event) {
		full := e.Parents[:cap(e.Parents)]
		for i := range full {
			full[i] = "$ruined"
		}
		_ = append(e.Parents, "$more")
	}
	for _, e := range some() {
		told, _ := d.Event(e.ID)
		ruin(told)
		checkIs(t, d, some())
	}
	all := d.All()
	for i := range all {
		ruin(all[i])
		all[i] = api.Event{ID: "$ruined"}
	}
	_ = append(all, api.Event{ID: "$more"})
	checkIs(t, d, some())
	heads := d.Heads()
	clear(heads[:cap(heads)])
	_ = append(heads, "$more")
	checkIs(t, d, some())
}

// TestNoTwoListsOfAnAnswerShare: what is put behind one event's Parents, or in their place, is not another one's.
func TestNoTwoListsOfAnAnswerShare(t *testing.T) {
	all := of(t, some()...).All()
	want := slices.Clone(all)
	for i := range want {
		want[i] = whole(want[i])
	}
	for i := range all {
		full := all[i].Parents[:cap(all[i].Parents)]
		for j := range full {
			full[j] = "$ruined"
		}
		_ = append(all[i].Parents, "$more")
		if showAll(all[i+1:]) != showAll(want[i+1:]) || showAll(all[:i]) != showAll(want[:i]) {
			t.Fatalf("event %d shares its Parents", i)
		}
		all[i] = whole(want[i])
	}
}

// texts are all texts of an event.
func texts(e api.Event) []string {
	return append([]string{e.ID, e.Room, e.Thread, e.User}, e.Parents...)
}

// TestNoTextIsShared: neither is a text that is handed in kept or told, nor one that is kept told twice.
func TestNoTextIsShared(t *testing.T) {
	known := map[*byte]string{}
	meet := func(what string, l ...string) {
		for _, s := range l {
			if s == "" {
				continue
			}
			if was, is := known[unsafe.StringData(s)]; is {
				t.Errorf("%s shares %q with %s", what, s, was)
			}
			known[unsafe.StringData(s)] = what
		}
	}
	fresh := func(e api.Event) api.Event {
		parents := []string{}
		for _, p := range e.Parents {
			parents = append(parents, strings.Clone(p))
		}
		return api.Event{ID: strings.Clone(e.ID), Room: strings.Clone(e.Room), Parents: parents, Thread: strings.Clone(e.Thread), User: strings.Clone(e.User), Does: e.Does}
	}
	room := strings.Clone("!r:s")
	meet("New", room)
	d := dag.New(room)
	for _, e := range some() {
		e = fresh(e)
		meet("Add", texts(e)...)
		checkAdd(t, d, e, api.OK)
	}
	for range 2 {
		meet("Room", d.Room())
		for _, e := range d.All() {
			meet("All", texts(e)...)
		}
		meet("Heads", d.Heads()...)
		for _, e := range some() {
			id := strings.Clone(e.ID)
			meet("asked", id)
			told, _ := d.Event(id)
			meet("Event", texts(told)...)
			at, _ := d.Position(id)
			meet("Position", at.ID)
		}
	}
}

// P7.2

// TestIDsThatAreNotThere: near ones, and such as are no events.
func TestIDsThatAreNotThere(t *testing.T) {
	d := of(t, some()...)
	for _, id := range []string{"", "$", "a", "$A", "$aa", "$a ", " $a", "$a\x00", "$z", "main", "!r:s", "@a:s", "\xff", long(100000)} {
		e, is := d.Event(id)
		at, isAt := d.Position(id)
		if is || isAt || d.Has(id) || !same(e, api.Event{}) || e.Parents != nil || at != (api.Position{}) {
			t.Errorf("%q: %s, %v, %v, %v", id, show(e), is, at, isAt)
		}
	}
	checkIs(t, d, some())
}

// TestRowByHand: by depth, then by ID, byte by byte, and heads of all depths.
func TestRowByHand(t *testing.T) {
	d := of(t, says("$z"), says("$a", "$z"), says("$_", "$z"), says("$Z"), says("$0", "$a"), says("$aa", "$Z"), says("$B", "$_", "$aa"), says("$-", "$Z"))
	var ids []string
	for _, e := range d.All() {
		ids = append(ids, e.ID)
	}
	if want := []string{"$Z", "$z", "$-", "$_", "$a", "$aa", "$0", "$B"}; !slices.Equal(ids, want) {
		t.Errorf("All is %q, want %q", ids, want)
	}
	if got, want := d.Heads(), []string{"$-", "$0", "$B"}; !slices.Equal(got, want) {
		t.Errorf("Heads is %q, want %q", got, want)
	}
}

// TestOneDepth: events of the same depth stand by ID, in whatever row they come.
func TestOneDepth(t *testing.T) {
	ids := []string{"$-", "$--", "$-a", "$0", "$00", "$1", "$10", "$2", "$9", "$A", "$AA", "$B", "$Z", "$_", "$a", "$aA", "$a_", "$aa", "$b", "$z", "$zzzzzzzzzzzzzzzz"}
	random := rand.New(rand.NewSource(3))
	for _, parents := range [][]string{nil, {"$root"}} {
		for range 100 {
			d := of(t, says("$root"))
			want := slices.Clone(ids)
			for _, i := range random.Perm(len(ids)) {
				checkAdd(t, d, says(ids[i], parents...), api.OK)
			}
			if parents == nil {
				want = slices.Insert(want, slices.Index(want, "$z"), "$root")
			}
			if got := d.Heads(); !slices.Equal(got, want) {
				t.Fatalf("Heads is %q, want %q", got, want)
			}
			var all []string
			for _, e := range d.All() {
				all = append(all, e.ID)
			}
			if parents != nil {
				want = slices.Insert(want, 0, "$root")
			}
			if !slices.Equal(all, want) {
				t.Fatalf("All is %q, want %q", all, want)
			}
		}
	}
}

// TestDepthIsByTheLongestWay: not by the first or last of the Parents, nor by the shortest way.
func TestDepthIsByTheLongestWay(t *testing.T) {
	chain := []api.Event{says("$m0"), says("$m1", "$m0"), says("$m2", "$m1"), says("$m3", "$m2"), says("$a"), says("$z")}
	for _, c := range []struct {
		parents []string
		want    int
	}{
		{nil, 0}, {[]string{"$a"}, 1}, {[]string{"$m3"}, 4}, {[]string{"$a", "$m3"}, 4}, {[]string{"$m3", "$z"}, 4}, {[]string{"$a", "$m3", "$z"}, 4},
		{[]string{"$m0", "$m1", "$m2", "$m3"}, 4}, {[]string{"$m0", "$m2"}, 3}, {[]string{"$a", "$m0", "$m1", "$z"}, 2},
	} {
		d := of(t, append(chain, says("$x", c.parents...), says("$y", "$x"))...)
		if at, is := d.Position("$x"); !is || at != (api.Position{Depth: c.want, ID: "$x"}) {
			t.Errorf("%q: %#v, want %d", c.parents, at, c.want)
		}
		if at, is := d.Position("$y"); !is || at != (api.Position{Depth: c.want + 1, ID: "$y"}) {
			t.Errorf("behind %q: %#v, want %d", c.parents, at, c.want+1)
		}
	}
}

// TestAThreadIsNoParent: it gives no depth, and its first event stays a head.
func TestAThreadIsNoParent(t *testing.T) {
	d := of(t, says("$a"), says("$b", "$a"), answers("$c", "$b"))
	if at, _ := d.Position("$c"); at.Depth != 0 {
		t.Errorf("%#v", at)
	}
	if heads := d.Heads(); !slices.Equal(heads, []string{"$c", "$b"}) {
		t.Errorf("%q", heads)
	}
}

// TestManyEvents: a long chain and many events behind one.
func TestManyEvents(t *testing.T) {
	const many = 20000
	d := of(t, says("$c0"))
	for i := 1; i < many; i++ {
		checkAdd(t, d, says(fmt.Sprint("$c", i), fmt.Sprint("$c", i-1)), api.OK)
	}
	if at, is := d.Position(fmt.Sprint("$c", many-1)); !is || at.Depth != many-1 {
		t.Errorf("%v, %v", at, is)
	}
	if heads := d.Heads(); !slices.Equal(heads, []string{fmt.Sprint("$c", many-1)}) {
		t.Errorf("%q", heads)
	}
	for i, e := range d.All() {
		if e.ID != fmt.Sprint("$c", i) {
			t.Fatalf("event %d is %q", i, e.ID)
		}
	}
	for i := range many {
		checkAdd(t, d, says(fmt.Sprintf("$w%06d", i), "$c0"), api.OK)
	}
	heads, all := d.Heads(), d.All()
	if d.Len() != 2*many || len(all) != 2*many || len(heads) != many+1 || heads[many] != fmt.Sprint("$c", many-1) {
		t.Fatalf("%d, %d, %d", d.Len(), len(all), len(heads))
	}
	for i := range many {
		if want := fmt.Sprintf("$w%06d", i); heads[i] != want || all[i+2].ID != want {
			t.Fatalf("%q, %q, want %q", heads[i], all[i+2].ID, want)
		}
	}
}

// TestAnswersChangeNothing: whatever is asked, however often, tells the same again.
func TestAnswersChangeNothing(t *testing.T) {
	d := of(t, some()...)
	all, heads := showAll(d.All()), d.Heads()
	for range 20 {
		checkIs(t, d, some())
		if showAll(d.All()) != all || !slices.Equal(d.Heads(), heads) {
			t.Fatal("All or Heads tells something else")
		}
	}
}

// P7.3

func positions() []api.Position {
	var l []api.Position
	for _, depth := range []int{math.MinInt, math.MinInt + 1, -1 << 40, -1, 0, 1, 2, 1 << 32, 1 << 40, math.MaxInt - 1, math.MaxInt} {
		for _, id := range []string{"", "\x00", "$", "$-", "$0", "$10", "$9", "$B", "$_", "$a", "$a\x00", "$aa", "$b", "a", "\u00e9", "\uffff", "\U00010000", "\xff"} {
			l = append(l, api.Position{Depth: depth, ID: id})
		}
	}
	return l
}

// TestCompareIsTheirRow: of all pairs of positions that rise by depth, then by ID.
func TestCompareIsTheirRow(t *testing.T) {
	l := positions()
	for i, a := range l {
		for j, b := range l {
			want := 0
			if i < j {
				want = -1
			} else if i > j {
				want = 1
			}
			if got := dag.Compare(a, b); got != want {
				t.Errorf("Compare(%#v, %#v) is %d, want %d", a, b, got, want)
			}
		}
	}
}

// TestCompareIsAnOrder: of all triples, each is the same as itself, both ways agree, and what is ahead of one ahead is ahead.
func TestCompareIsAnOrder(t *testing.T) {
	random := rand.New(rand.NewSource(4))
	l := positions()
	random.Shuffle(len(l), func(i, j int) { l[i], l[j] = l[j], l[i] })
	l = append(l[:60], l[:5]...)
	for _, a := range l {
		for _, b := range l {
			ab := dag.Compare(a, b)
			if ab != -dag.Compare(b, a) || (ab == 0) != (a == b) || ab < -1 || ab > 1 {
				t.Errorf("Compare(%#v, %#v) is %d, and %d the other way", a, b, ab, dag.Compare(b, a))
			}
			for _, c := range l {
				if ab <= 0 && dag.Compare(b, c) <= 0 && dag.Compare(a, c) > 0 {
					t.Errorf("%#v, %#v, %#v do not rise", a, b, c)
				}
			}
		}
	}
}

// unlike is events of which any two part in one field or more.
func unlike() []api.Event {
	base := answers("$e", "$t", "$a", "$b")
	return []api.Event{
		{}, base,
		with(base, func(e *api.Event) { e.ID = "$E" }),
		with(base, func(e *api.Event) { e.ID = "" }),
		with(base, func(e *api.Event) { e.Room = "!q:s" }),
		with(base, func(e *api.Event) { e.Room = "" }),
		with(base, func(e *api.Event) { e.Thread = "$u" }),
		with(base, func(e *api.Event) { e.Thread = "" }),
		with(base, func(e *api.Event) { e.User = "@b:s" }),
		with(base, func(e *api.Event) { e.User = "" }),
		with(base, func(e *api.Event) { e.Does = 1 }),
		with(base, func(e *api.Event) { e.Does = 2 }),
		with(base, func(e *api.Event) { e.Does = -1 }),
		with(base, func(e *api.Event) { e.Does = 1 << 32 }),
		with(base, func(e *api.Event) { e.Parents = nil }),
		with(base, func(e *api.Event) { e.Parents = []string{"$a"} }),
		with(base, func(e *api.Event) { e.Parents = []string{"$b"} }),
		with(base, func(e *api.Event) { e.Parents = []string{"$b", "$a"} }),
		with(base, func(e *api.Event) { e.Parents = []string{"$a", "$c"} }),
		with(base, func(e *api.Event) { e.Parents = []string{"$c", "$b"} }),
		with(base, func(e *api.Event) { e.Parents = []string{"$a", "$b", "$c"} }),
		with(base, func(e *api.Event) { e.Parents = []string{"$a", "$b", "$b"} }),
		with(base, func(e *api.Event) { e.Parents = []string{"$a", "$b", ""} }),
		with(base, func(e *api.Event) { e.Parents = []string{""} }),
		with(base, func(e *api.Event) { e.Parents = []string{"$a$b"} }),
		with(base, func(e *api.Event) { e.Parents = []string{"$a$", "b"} }),
		with(base, func(e *api.Event) { e.Parents = []string{"$a,$b"} }),
		with(base, func(e *api.Event) { e.ID, e.Thread = "$t", "$e" }),
		with(base, func(e *api.Event) { e.Room, e.User = "@a:s", "!r:s" }),
	}
}

func TestSameIsOfAllFields(t *testing.T) {
	l := unlike()
	for i, a := range l {
		for j, b := range l {
			if got := dag.Same(whole(a), whole(b)); got != (i == j) {
				t.Errorf("Same(%s, %s) is %v", show(a), show(b), got)
			}
		}
	}
}

// TestSameOfNoParents: nil and empty ones are one.
func TestSameOfNoParents(t *testing.T) {
	none, empty := says("$e"), says("$e")
	none.Parents, empty.Parents = nil, []string{}
	spare := whole(empty)
	spare.Parents = make([]string, 0, 4)
	for _, a := range []api.Event{none, empty, spare} {
		for _, b := range []api.Event{none, empty, spare} {
			if !dag.Same(a, b) {
				t.Errorf("Same(%#v, %#v) is false", a, b)
			}
		}
		if dag.Same(a, says("$e", "$a")) || dag.Same(says("$e", "$a"), a) {
			t.Errorf("%#v is the same as one with a Parent", a)
		}
		follow(t, "!r:s", a, says("$f", "$e"))
	}
}

// P7.4

// isAhead is whether one event of a list is ahead of another one, by the chapter's words.
func isAhead(events map[string]api.Event, a, b string) bool {
	for _, p := range events[b].Parents {
		if p == a || isAhead(events, a, p) {
			return true
		}
	}
	return false
}

// chance is n events that may come in that row, threads and who joins among them.
func chance(random *rand.Rand, n int) []api.Event {
	ids := random.Perm(n)
	var l []api.Event
	for i := range n {
		e := says(fmt.Sprint("$", ids[i]))
		for range random.Intn(5) {
			if i > 0 {
				e.Parents = append(e.Parents, l[random.Intn(i)].ID)
			}
		}
		slices.Sort(e.Parents)
		e.Parents = slices.Compact(e.Parents)
		if e.Does = max(0, random.Intn(5)-2); e.Does == 0 && i > 0 {
			if first := l[random.Intn(i)]; first.Does == 0 && first.Thread == "" {
				e.Thread = first.ID
			}
		}
		l = append(l, e)
	}
	return l
}

func TestWhatIsAheadIsLessDeep(t *testing.T) {
	random := rand.New(rand.NewSource(5))
	pairs := 0
	for range 300 {
		l := chance(random, 1+random.Intn(9))
		d := of(t, l...)
		events := map[string]api.Event{}
		for _, e := range l {
			events[e.ID] = e
		}
		for _, a := range l {
			for _, b := range l {
				if !isAhead(events, a.ID, b.ID) {
					continue
				}
				pairs++
				at, _ := d.Position(a.ID)
				behind, _ := d.Position(b.ID)
				if at.Depth >= behind.Depth || dag.Compare(at, behind) != -1 {
					t.Fatalf("%s\n%q is ahead of %q, but at %v and %v", showAll(l), a.ID, b.ID, at, behind)
				}
			}
		}
	}
	if pairs < 1000 {
		t.Errorf("only %d pairs", pairs)
	}
}

// answer is all that a dag tells of some IDs, printed.
func answer(d *dag.Dag, l []api.Event) string {
	s := fmt.Sprintf("%q %d %q\n%s", d.Room(), d.Len(), d.Heads(), showAll(d.All()))
	for _, e := range l {
		told, is := d.Event(e.ID)
		at, isAt := d.Position(e.ID)
		s += fmt.Sprintf("\n%q %v %s %v %v %v", e.ID, d.Has(e.ID), show(told), is, at, isAt)
	}
	return s
}

// eachRow tells all rows of events in which each comes behind its Parents and its Thread.
func eachRow(l []api.Event, tell func(row []api.Event)) {
	var come func(row, left []api.Event)
	come = func(row, left []api.Event) {
		if len(left) == 0 {
			tell(row)
		}
		for i, e := range left {
			waits := slices.ContainsFunc(left, func(f api.Event) bool { return slices.Contains(e.Parents, f.ID) || e.Thread == f.ID })
			if !waits {
				come(append(slices.Clone(row), e), slices.Delete(slices.Clone(left), i, i+1))
			}
		}
	}
	come(nil, l)
}

// TestAllRowsTellTheSame: few events in every row in which they may come.
func TestAllRowsTellTheSame(t *testing.T) {
	random := rand.New(rand.NewSource(6))
	rows := 0
	for range 400 {
		l := chance(random, 1+random.Intn(7))
		want := answer(of(t, l...), l)
		eachRow(l, func(row []api.Event) {
			rows++
			if got := answer(of(t, row...), l); got != want {
				t.Fatalf("%s\ntells\n%s\nwant\n%s", showAll(row), got, want)
			}
		})
	}
	if rows < 500 {
		t.Errorf("only %d rows", rows)
	}
}

// TestRowsOfChanceTellTheSame: many events, in rows of chance, those that come too early again and again, until they may.
func TestRowsOfChanceTellTheSame(t *testing.T) {
	random := rand.New(rand.NewSource(8))
	for range 30 {
		l := chance(random, 80)
		want := answer(of(t, l...), l)
		for range 5 {
			d := dag.New("!r:s")
			for d.Len() < len(l) {
				for _, i := range random.Perm(len(l)) {
					has := d.Has(l[i].ID)
					errno := d.Add(l[i])
					if errno != api.OK && errno != api.ErrUnknown && errno != api.ErrTwice || has != (errno == api.ErrTwice) {
						t.Fatalf("Add of %s is %v", show(l[i]), errno)
					}
				}
			}
			if got := answer(d, l); got != want {
				t.Fatalf("it tells\n%s\nwant\n%s", got, want)
			}
		}
	}
}
