package index_test

import (
	"fmt"
	"math/rand"
	"slices"
	"sort"
	"strings"
	"sync"
	"testing"
	"unsafe"

	"concourse/api"
	"concourse/dag"
	"concourse/index"
)

const room = "!r:s"

// event is one of the room, behind its Parents, which are sorted here.
func event(id string, parents ...string) api.Event {
	parents = slices.Clone(parents)
	sort.Strings(parents)
	return api.Event{ID: id, Room: room, User: "@a:s", Parents: parents}
}

// dagOf is a dag of these events, each behind its Parents.
func dagOf(t testing.TB, events []api.Event) *dag.Dag {
	t.Helper()
	d := dag.New(room)
	for _, e := range events {
		if errno := d.Add(e); errno != api.OK {
			t.Fatalf("the test's own dag: Add(%#v) = %v", e, errno)
		}
	}
	return d
}

// model is which events are ahead by the chapter's words: a plain list of events, whose Parents are searched whenever something is asked.
type model []api.Event

func (m model) parents(id string) []string {
	for _, e := range m {
		if e.ID == id {
			return e.Parents
		}
	}
	return nil
}

func (m model) has(id string) bool {
	return slices.ContainsFunc(m, func(e api.Event) bool { return e.ID == id })
}

func (m model) depth(id string) int {
	depth := 0
	for _, p := range m.parents(id) {
		depth = max(depth, m.depth(p)+1)
	}
	return depth
}

// ahead is one of its Parents, or ahead of one of these.
func (m model) ahead(a, b string) bool {
	parents := m.parents(b)
	return slices.Contains(parents, a) || slices.ContainsFunc(parents, func(p string) bool { return m.ahead(a, p) })
}

func (m model) apart(a, b string) bool {
	return m.has(a) && m.has(b) && a != b && !m.ahead(a, b) && !m.ahead(b, a)
}

// those is the IDs of all that are meant, by depth, then byte by byte.
func (m model) those(meant func(id string) bool) []string {
	var ids []string
	for _, e := range m {
		if meant(e.ID) {
			ids = append(ids, e.ID)
		}
	}
	slices.SortFunc(ids, func(a, b string) int {
		if d := m.depth(a) - m.depth(b); d != 0 {
			return d
		}
		return slices.Compare([]byte(a), []byte(b))
	})
	return ids
}

func (m model) ancestors(id string) []string {
	return m.those(func(other string) bool { return m.ahead(other, id) })
}

func (m model) behind(id string) []string {
	return m.those(func(other string) bool { return m.ahead(id, other) })
}

func (m model) common(a, b string) []string {
	return m.those(func(other string) bool { return m.ahead(other, a) && m.ahead(other, b) })
}

// table is the model's answers, each worked out once: of great dags they are asked for often.
type table struct {
	ids               []string // by their positions
	ahead             map[[2]string]bool
	ancestors, behind map[string][]string
}

// tableOf goes through all chains of Parents from each event with a list of what is to be looked at.
func tableOf(events []api.Event) table {
	w := table{ahead: map[[2]string]bool{}, ancestors: map[string][]string{}, behind: map[string][]string{}}
	parents, depths := map[string][]string{}, map[string]int{}
	for _, e := range events {
		parents[e.ID] = e.Parents
		for _, p := range e.Parents {
			depths[e.ID] = max(depths[e.ID], depths[p]+1)
		}
		w.ids = append(w.ids, e.ID)
	}
	sort.Slice(w.ids, func(i, j int) bool {
		a, b := w.ids[i], w.ids[j]
		return depths[a] < depths[b] || depths[a] == depths[b] && a < b
	})
	for _, id := range w.ids {
		look := slices.Clone(parents[id])
		for len(look) > 0 {
			p := look[0]
			look = look[1:]
			if !w.ahead[[2]string{p, id}] {
				w.ahead[[2]string{p, id}] = true
				look = append(look, parents[p]...)
			}
		}
	}
	for _, id := range w.ids {
		for _, other := range w.ids {
			if w.ahead[[2]string{other, id}] {
				w.ancestors[id] = append(w.ancestors[id], other)
			}
			if w.ahead[[2]string{id, other}] {
				w.behind[id] = append(w.behind[id], other)
			}
		}
	}
	return w
}

func (w table) common(a, b string) []string {
	var ids []string
	for _, id := range w.ancestors[a] {
		if w.ahead[[2]string{id, b}] {
			ids = append(ids, id)
		}
	}
	return ids
}

func (w table) apart(a, b string) bool {
	return a != b && !w.ahead[[2]string{a, b}] && !w.ahead[[2]string{b, a}]
}

// checkTable holds an index against a table, for each event and each pair.
func checkTable(t testing.TB, x *index.Index, w table) {
	t.Helper()
	if n := x.Len(); n != len(w.ids) {
		t.Fatalf("Len() = %d, want %d", n, len(w.ids))
	}
	for _, a := range w.ids {
		if l := x.Ancestors(a); !slices.Equal(l, w.ancestors[a]) {
			t.Fatalf("Ancestors(%q) = %q, want %q", a, l, w.ancestors[a])
		}
		if l := x.Behind(a); !slices.Equal(l, w.behind[a]) {
			t.Fatalf("Behind(%q) = %q, want %q", a, l, w.behind[a])
		}
		for _, b := range w.ids {
			if is, want := x.Ahead(a, b), w.ahead[[2]string{a, b}]; is != want {
				t.Fatalf("Ahead(%q, %q) = %v, want %v", a, b, is, want)
			}
			if is, want := x.Apart(a, b), w.apart(a, b); is != want {
				t.Fatalf("Apart(%q, %q) = %v, want %v", a, b, is, want)
			}
			if l, want := x.Common(a, b), w.common(a, b); !slices.Equal(l, want) {
				t.Fatalf("Common(%q, %q) = %q, want %q", a, b, l, want)
			}
		}
	}
}

// strangers are texts that are no event's ID in any dag here.
var strangers = []string{"", "$", "q", "$q", "$q:s", "@a:s", "!r:s", "main", "$\x00", "$\xff", "$01234567890123456", strings.Repeat("$", 1000)}

// checkModel holds an index against the model, for each event and each pair, with strangers on either side and on both.
func checkModel(t testing.TB, x *index.Index, m model) {
	t.Helper()
	if n := x.Len(); n != len(m) {
		t.Fatalf("Len() = %d, want %d of %v", n, len(m), m)
	}
	ids := slices.Clone(strangers[:4])
	for _, e := range m {
		ids = append(ids, e.ID)
	}
	for _, a := range ids {
		if l, want := x.Ancestors(a), m.ancestors(a); !slices.Equal(l, want) {
			t.Fatalf("Ancestors(%q) = %q, want %q of %v", a, l, want, m)
		}
		if l, want := x.Behind(a), m.behind(a); !slices.Equal(l, want) {
			t.Fatalf("Behind(%q) = %q, want %q of %v", a, l, want, m)
		}
		for _, b := range ids {
			if is, want := x.Ahead(a, b), m.ahead(a, b); is != want {
				t.Fatalf("Ahead(%q, %q) = %v, want %v of %v", a, b, is, want, m)
			}
			if is, want := x.Apart(a, b), m.apart(a, b); is != want {
				t.Fatalf("Apart(%q, %q) = %v, want %v of %v", a, b, is, want, m)
			}
			if l, want := x.Common(a, b), m.common(a, b); !slices.Equal(l, want) {
				t.Fatalf("Common(%q, %q) = %q, want %q of %v", a, b, l, want, m)
			}
		}
	}
}

// chain is a long row of events each behind the one ahead; their IDs are in no row of their own.
func chain(n int) []api.Event {
	var events []api.Event
	for i := range n {
		id := chainID(i)
		if i == 0 {
			events = append(events, event(id))
		} else {
			events = append(events, event(id, chainID(i-1)))
		}
	}
	return events
}

func chainID(i int) string { return fmt.Sprintf("$%d-%d", i*7919%1000, i) }

// beside is events without Parents beside one another.
func beside(n int) []api.Event {
	var events []api.Event
	for i := range n {
		events = append(events, event(chainID(i)))
	}
	return events
}

// ladder is n rows of four events, each of which has all four of the row ahead as its Parents.
func ladder(n int) []api.Event {
	var events []api.Event
	var last []string
	for i := range n {
		var row []string
		for _, c := range []string{"Z", "a", "-", "9"} {
			id := fmt.Sprintf("$%s%d", c, i)
			events = append(events, event(id, last...))
			row = append(row, id)
		}
		last = row
	}
	return events
}

// fan is one event, n behind it, and one behind the last four of these.
func fan(n int) []api.Event {
	events := []api.Event{event("$root")}
	var ids []string
	for i := range n {
		ids = append(ids, chainID(i))
		events = append(events, event(chainID(i), "$root"))
	}
	return append(events, event("$all", ids[max(0, n-4):]...))
}

// strands is w long rows beside one another, of n each.
func strands(w, n int) []api.Event {
	var events []api.Event
	for i := range n {
		for j := range w {
			if i == 0 {
				events = append(events, event(fmt.Sprintf("$%d_%d", i, j)))
			} else {
				events = append(events, event(fmt.Sprintf("$%d_%d", i, j), fmt.Sprintf("$%d_%d", i-1, j)))
			}
		}
	}
	return events
}

// chance is n events, each behind up to four of the last ones.
func chance(r *rand.Rand, n, back int) []api.Event {
	const bytes = "abcXYZ019_-"
	var events []api.Event
	var ids []string
	for i := range n {
		id := []byte{'$'}
		for range 1 + r.Intn(4) {
			id = append(id, bytes[r.Intn(len(bytes))])
		}
		full := string(id) + fmt.Sprintf("Q%d", i)
		var parents []string
		for range r.Intn(5) {
			if i > 0 {
				if p := ids[max(0, i-1-r.Intn(back))]; !slices.Contains(parents, p) {
					parents = append(parents, p)
				}
			}
		}
		ids = append(ids, full)
		events = append(events, event(full, parents...))
	}
	return events
}

// forms are dags of many forms, by what they are called.
func forms() map[string][]api.Event {
	all := map[string][]api.Event{
		"none":    nil,
		"one":     {event("$a")},
		"example": {event("$a"), event("$b", "$a"), event("$c", "$a")},
		"diamond": {event("$a"), event("$b", "$a"), event("$c", "$a"), event("$d", "$b", "$c")},
		"short and long way": {event("$a"), event("$b", "$a"), event("$c", "$b"), event("$d", "$a", "$c"),
			event("$0", "$a"), event("$e", "$0", "$d")},
		"named backwards": {event("$z"), event("$y", "$z"), event("$x", "$y"), event("$w", "$x", "$z")},
		"four Parents": {event("$a"), event("$b"), event("$c"), event("$d"), event("$e", "$a", "$b", "$c", "$d"),
			event("$0"), event("$1", "$0", "$a", "$e")},
		"four Parents of four depths": {event("$d"), event("$c", "$d"), event("$b", "$c"), event("$a", "$b"),
			event("$e", "$a", "$b", "$c", "$d")},
		"bytes in their row": {event("$-"), event("$0"), event("$00"), event("$A"), event("$Z"), event("$_"), event("$a"), event("$z"),
			event("$zz"), event("$9", "$-", "$0", "$_", "$z"), event("$B", "$00", "$A", "$Z", "$a"), event("$b", "$9", "$B")},
		"longest names": {event("$0123456789abcdef"), event("$0123456789abcdee"), event("$0123456789abcde", "$0123456789abcdef")},
		"fan":           fan(70),
		"two apart":     append(chain(40), strands(2, 40)...),
	}
	for _, n := range []int{2, 63, 64, 65, 127, 128, 129, 200} {
		all[fmt.Sprintf("chain of %d", n)] = chain(n)
		all[fmt.Sprintf("%d beside one another", n)] = beside(n)
	}
	for _, n := range []int{1, 2, 16, 17, 33} {
		all[fmt.Sprintf("ladder of %d", n)] = ladder(n)
	}
	for w := 1; w <= 5; w++ {
		all[fmt.Sprintf("%d strands", w)] = strands(w, 30)
	}
	for seed := range int64(12) {
		r := rand.New(rand.NewSource(seed))
		all[fmt.Sprintf("chance %d", seed)] = chance(r, 100+r.Intn(120), 1+r.Intn(60))
	}
	return all
}

// P8.1, P8.2: dags of many forms, each pair of their events.

func TestForms(t *testing.T) {
	for called, events := range forms() {
		t.Run(called, func(t *testing.T) {
			checkTable(t, index.Of(dagOf(t, events)), tableOf(events))
		})
	}
}

// TestEverySmallDag takes every dag of up to five events, and many of six, their IDs rising, falling, and mixed.
func TestEverySmallDag(t *testing.T) {
	for _, ids := range [][]string{
		{"$a", "$b", "$c", "$d", "$e", "$f"},
		{"$f", "$e", "$d", "$c", "$b", "$a"},
		{"$b", "$aa", "$Z", "$a", "$_", "$-"},
	} {
		var events []api.Event
		var build func()
		build = func() {
			if len(events) < len(ids) || sampled(events) {
				checkModel(t, index.Of(dagOf(t, events)), events)
			}
			if len(events) == len(ids) {
				return
			}
			for set := range 1 << len(events) {
				var parents []string
				for i, e := range events {
					if set>>i&1 == 1 {
						parents = append(parents, e.ID)
					}
				}
				if len(parents) > api.MaxParents {
					continue
				}
				events = append(events, event(ids[len(events)], parents...))
				build()
				events = events[:len(events)-1]
			}
		}
		build()
	}
}

// sampled takes one in seven of the dags of six events, by how many Parents stand where.
func sampled(events []api.Event) bool {
	sum := 0
	for i, e := range events {
		for _, p := range e.Parents {
			sum += (i + 1) * int(p[1])
		}
	}
	return sum%7 == 0
}

// P8.1

func TestOfAndLen(t *testing.T) {
	for called, events := range forms() {
		d := dagOf(t, events)
		x := index.Of(d)
		if x == nil {
			t.Fatalf("%s: Of(d) is nil", called)
		}
		if n := x.Len(); n != len(events) {
			t.Errorf("%s: Len() = %d, want %d", called, n, len(events))
		}
		x.Ahead("$a", "$b")
		if n := x.Len(); n != len(events) {
			t.Errorf("%s: Len() = %d behind a question, want %d", called, n, len(events))
		}
	}
}

func TestNoEvents(t *testing.T) {
	for _, of := range []string{room, "", "no room"} {
		x := index.Of(dag.New(of))
		if n := x.Len(); n != 0 {
			t.Errorf("Len() = %d of a dag without events", n)
		}
		checkStrangers(t, x, strangers)
	}
}

// checkStrangers asks for IDs that are not there, on either side and on both.
func checkStrangers(t *testing.T, x *index.Index, ids []string) {
	t.Helper()
	for _, q := range strangers {
		if l := x.Ancestors(q); len(l) != 0 {
			t.Errorf("Ancestors(%q) = %q", q, l)
		}
		if l := x.Behind(q); len(l) != 0 {
			t.Errorf("Behind(%q) = %q", q, l)
		}
		for _, id := range append(slices.Clone(strangers), ids...) {
			for _, pair := range [][2]string{{q, id}, {id, q}} {
				a, b := pair[0], pair[1]
				if x.Ahead(a, b) {
					t.Errorf("Ahead(%q, %q)", a, b)
				}
				if x.Apart(a, b) {
					t.Errorf("Apart(%q, %q)", a, b)
				}
				if l := x.Common(a, b); len(l) != 0 {
					t.Errorf("Common(%q, %q) = %q", a, b, l)
				}
			}
		}
	}
}

func TestNotThere(t *testing.T) {
	for called, events := range forms() {
		if len(events) > 40 {
			continue
		}
		t.Run(called, func(t *testing.T) {
			var ids []string
			for _, e := range events {
				ids = append(ids, e.ID)
			}
			checkStrangers(t, index.Of(dagOf(t, events)), ids)
		})
	}
}

// TestAlmostThere asks for texts that part from an ID in a byte, or in the end.
func TestAlmostThere(t *testing.T) {
	x := index.Of(dagOf(t, []api.Event{event("$ab"), event("$cd", "$ab"), event("$ef", "$cd")}))
	for _, q := range []string{"$a", "$abc", "$aB", "ab", "$ab ", " $ab", "$ab\x00", "$", "$c", "$cde", "$CD", "$ab$cd"} {
		if x.Ahead(q, "$ef") || x.Ahead("$ab", q) || x.Apart(q, "$ef") || x.Apart("$ab", q) ||
			len(x.Common(q, "$ef")) != 0 || len(x.Common("$ef", q)) != 0 || len(x.Ancestors(q)) != 0 || len(x.Behind(q)) != 0 {
			t.Errorf("%q is there", q)
		}
	}
}

func TestAhead(t *testing.T) {
	x := index.Of(dagOf(t, []api.Event{
		event("$a"), event("$b", "$a"), event("$c", "$a"), event("$d", "$b", "$c"), event("$e"),
	}))
	for _, w := range []struct {
		a, b  string
		ahead bool
	}{
		{"$a", "$b", true}, {"$a", "$c", true}, {"$a", "$d", true}, {"$b", "$d", true}, {"$c", "$d", true},
		{"$b", "$a", false}, {"$d", "$a", false}, {"$d", "$b", false}, {"$b", "$c", false}, {"$c", "$b", false},
		{"$a", "$a", false}, {"$d", "$d", false}, {"$e", "$e", false},
		{"$e", "$d", false}, {"$d", "$e", false}, {"$a", "$e", false}, {"$e", "$a", false},
		{"$q", "$b", false}, {"$a", "$q", false}, {"$q", "$q", false}, {"", "$b", false}, {"$a", "", false}, {"", "", false},
	} {
		if is := x.Ahead(w.a, w.b); is != w.ahead {
			t.Errorf("Ahead(%q, %q) = %v", w.a, w.b, is)
		}
	}
}

// TestThreadIsNotAhead: an event's Thread is ahead of it only if its Parents say so.
func TestThreadIsNotAhead(t *testing.T) {
	beside := event("$u")
	beside.Thread = "$t"
	behind := event("$v", "$t")
	behind.Thread = "$t"
	last := event("$w", "$u")
	x := index.Of(dagOf(t, []api.Event{event("$t"), beside, behind, last}))
	if x.Ahead("$t", "$u") || x.Ahead("$u", "$t") || x.Ahead("$t", "$w") || !x.Apart("$t", "$u") || !x.Apart("$t", "$w") {
		t.Error("a Thread that is no Parent is ahead")
	}
	if !x.Ahead("$t", "$v") || x.Apart("$t", "$v") {
		t.Error("a Thread that is a Parent is not ahead")
	}
	if l := x.Behind("$t"); !slices.Equal(l, []string{"$v"}) {
		t.Errorf("Behind($t) = %q", l)
	}
	if l := x.Ancestors("$u"); len(l) != 0 {
		t.Errorf("Ancestors($u) = %q", l)
	}
	if l := x.Common("$u", "$v"); len(l) != 0 {
		t.Errorf("Common($u, $v) = %q", l)
	}
}

// TestWhatEventsDo: who joins and who leaves stands in the row as all others do.
func TestWhatEventsDo(t *testing.T) {
	events := []api.Event{event("$j"), event("$m", "$j"), event("$l", "$m"), event("$n", "$l")}
	events[0].Does, events[2].Does, events[3].User = api.Joins, api.Leaves, "@b:t"
	checkTable(t, index.Of(dagOf(t, events)), tableOf(events))
}

// P8.2

func TestExample(t *testing.T) {
	x := index.Of(dagOf(t, []api.Event{event("$a"), event("$b", "$a"), event("$c", "$a")}))
	if !x.Ahead("$a", "$b") || !x.Apart("$b", "$c") {
		t.Error("Ahead or Apart")
	}
	if l := x.Common("$b", "$c"); !slices.Equal(l, []string{"$a"}) {
		t.Errorf("Common($b, $c) = %q", l)
	}
}

func TestListsByPosition(t *testing.T) {
	x := index.Of(dagOf(t, []api.Event{
		event("$z"), event("$a", "$z"), event("$Z", "$z"), event("$aa", "$z"), event("$-", "$z"),
		event("$0", "$-", "$Z", "$a", "$aa"), event("$y"), event("$1", "$0", "$y"), event("$2", "$0", "$y"),
	}))
	for _, w := range []struct {
		called    string
		got, want []string
	}{
		{"Ancestors($1)", x.Ancestors("$1"), []string{"$y", "$z", "$-", "$Z", "$a", "$aa", "$0"}},
		{"Behind($z)", x.Behind("$z"), []string{"$-", "$Z", "$a", "$aa", "$0", "$1", "$2"}},
		{"Behind($y)", x.Behind("$y"), []string{"$1", "$2"}},
		{"Common($1, $2)", x.Common("$1", "$2"), []string{"$y", "$z", "$-", "$Z", "$a", "$aa", "$0"}},
		{"Common($0, $1)", x.Common("$0", "$1"), []string{"$z", "$-", "$Z", "$a", "$aa"}},
		{"Common($1, $1)", x.Common("$1", "$1"), []string{"$y", "$z", "$-", "$Z", "$a", "$aa", "$0"}},
		{"Common($z, $1)", x.Common("$z", "$1"), nil},
		{"Common($y, $z)", x.Common("$y", "$z"), nil},
		{"Ancestors($z)", x.Ancestors("$z"), nil},
		{"Behind($2)", x.Behind("$2"), nil},
	} {
		if !slices.Equal(w.got, w.want) {
			t.Errorf("%s = %q, want %q", w.called, w.got, w.want)
		}
	}
}

func TestOneAndItself(t *testing.T) {
	for called, events := range forms() {
		x := index.Of(dagOf(t, events))
		for _, e := range events {
			if x.Apart(e.ID, e.ID) || x.Ahead(e.ID, e.ID) {
				t.Fatalf("%s: %q is apart from, or ahead of, itself", called, e.ID)
			}
			if l, want := x.Common(e.ID, e.ID), x.Ancestors(e.ID); !slices.Equal(l, want) {
				t.Fatalf("%s: Common(%q, itself) = %q, want %q", called, e.ID, l, want)
			}
		}
	}
}

// P8.3

func TestWhatIsAheadOfWhatIsAhead(t *testing.T) {
	for called, events := range forms() {
		if len(events) > 130 {
			continue
		}
		x := index.Of(dagOf(t, events))
		for _, e := range events {
			if x.Ahead(e.ID, e.ID) {
				t.Fatalf("%s: %q is ahead of itself", called, e.ID)
			}
			for _, p := range e.Parents {
				if !x.Ahead(p, e.ID) {
					t.Fatalf("%s: the Parent %q is not ahead of %q", called, p, e.ID)
				}
			}
			ancestors := x.Ancestors(e.ID)
			if slices.Contains(ancestors, e.ID) || slices.Contains(x.Behind(e.ID), e.ID) {
				t.Fatalf("%s: %q is among its own", called, e.ID)
			}
			for _, b := range ancestors {
				if x.Ahead(e.ID, b) {
					t.Fatalf("%s: %q and %q are ahead of each other", called, e.ID, b)
				}
				for _, a := range x.Ancestors(b) {
					if !x.Ahead(a, e.ID) || !slices.Contains(ancestors, a) {
						t.Fatalf("%s: %q is ahead of %q, but not of %q", called, a, b, e.ID)
					}
				}
			}
		}
	}
}

// An index is of the events as they are when it is made.

func TestWhatIsAddedBehindOf(t *testing.T) {
	for _, asked := range []bool{false, true} {
		for called, events := range forms() {
			if len(events) > 70 {
				continue
			}
			d := dagOf(t, events)
			x := index.Of(d)
			if asked {
				x.Ahead("$a", "$b")
			}
			added := []api.Event{event("$q"), event("$q1", "$q"), event("$0q")}
			if len(events) > 0 {
				last := events[len(events)-1].ID
				added = append(added, event("$q2", last), event("$q3", last, "$q2"), event("$q4", events[0].ID, "$q"))
			}
			for _, e := range added {
				if errno := d.Add(e); errno != api.OK {
					t.Fatalf("%s: Add(%#v) = %v", called, e, errno)
				}
			}
			checkTable(t, x, tableOf(events))
			for _, e := range added {
				if len(x.Ancestors(e.ID)) != 0 || len(x.Behind(e.ID)) != 0 || len(x.Common(e.ID, e.ID)) != 0 {
					t.Errorf("%s: %q, which came later, is there", called, e.ID)
				}
				for _, f := range append(added, events...) {
					if x.Ahead(e.ID, f.ID) || x.Ahead(f.ID, e.ID) || x.Apart(e.ID, f.ID) || x.Apart(f.ID, e.ID) {
						t.Errorf("%s: %q, which came later, is there beside %q", called, e.ID, f.ID)
					}
				}
			}
			grown := append(slices.Clone(events), added...)
			checkTable(t, index.Of(d), tableOf(grown))
			checkTable(t, x, tableOf(events))
		}
	}
}

// TestAtEachStep makes an index behind each event that comes, and asks all of them at the end.
func TestAtEachStep(t *testing.T) {
	events := chance(rand.New(rand.NewSource(99)), 40, 8)
	d := dag.New(room)
	indexes := []*index.Index{index.Of(d)}
	for i, e := range events {
		if errno := d.Add(e); errno != api.OK {
			t.Fatal(errno)
		}
		indexes = append(indexes, index.Of(d))
		if i%3 == 0 {
			checkTable(t, indexes[i], tableOf(events[:i]))
		}
	}
	for n, x := range indexes {
		checkTable(t, x, tableOf(events[:n]))
	}
}

// TestWhateverRowTheyCameIn: the index hangs on the events alone.
func TestWhateverRowTheyCameIn(t *testing.T) {
	r := rand.New(rand.NewSource(5))
	for seed := range int64(20) {
		events := chance(rand.New(rand.NewSource(seed)), 30, 1+r.Intn(20))
		want := tableOf(events)
		for range 5 {
			checkTable(t, index.Of(dagOf(t, shuffled(r, events))), want)
		}
	}
}

// shuffled is the events in another row, each behind its Parents.
func shuffled(r *rand.Rand, events []api.Event) []api.Event {
	var row []api.Event
	there := map[string]bool{}
	left := slices.Clone(events)
	for len(left) > 0 {
		i := r.Intn(len(left))
		e := left[i]
		if slices.ContainsFunc(e.Parents, func(p string) bool { return !there[p] }) {
			continue
		}
		there[e.ID] = true
		row = append(row, e)
		left = slices.Delete(left, i, i+1)
	}
	return row
}

// TestOfChangesNothing: neither Of nor what is asked changes the dag.
func TestOfChangesNothing(t *testing.T) {
	events := ladder(5)
	d := dagOf(t, events)
	before, heads := d.All(), d.Heads()
	checkTable(t, index.Of(d), tableOf(events))
	if !slices.EqualFunc(d.All(), before, dag.Same) || !slices.Equal(d.Heads(), heads) {
		t.Error("the dag is another one")
	}
}

func TestIndexesAreApart(t *testing.T) {
	one, other := chain(30), ladder(6)
	d := dagOf(t, one)
	x, y, z := index.Of(d), index.Of(dagOf(t, other)), index.Of(d)
	if x == z {
		t.Error("two indexes of a dag are one")
	}
	for range 2 {
		checkTable(t, x, tableOf(one))
		checkTable(t, y, tableOf(other))
		checkTable(t, z, tableOf(one))
	}
}

// R4

// TestListsMayBeChanged: what was told is whoever's it was told to.
func TestListsMayBeChanged(t *testing.T) {
	events := ladder(20)
	x, want := index.Of(dagOf(t, events)), tableOf(events)
	spoil := func(l []string) {
		l = l[:cap(l)]
		for i := range l {
			l[i] = "$spoilt"
		}
	}
	for _, e := range events {
		spoil(x.Ancestors(e.ID))
		spoil(x.Behind(e.ID))
		for _, f := range events[:8] {
			spoil(x.Common(e.ID, f.ID))
		}
	}
	checkTable(t, x, want)
}

// TestListsShareNothing: neither lists nor texts that were told share memory with others, with what was asked, or with the dag.
func TestListsShareNothing(t *testing.T) {
	events := ladder(6)
	d := dagOf(t, events)
	x := index.Of(d)
	texts := map[*byte]string{}
	note := func(called string, l []string) {
		t.Helper()
		for _, s := range l {
			at := unsafe.StringData(s)
			if first, is := texts[at]; is {
				t.Fatalf("%s and %s share the text %q", called, first, s)
			}
			texts[at] = called
		}
	}
	for _, e := range events {
		note("the event handed in", []string{e.ID})
	}
	for _, e := range d.All() {
		note("All", []string{e.ID})
		note("All's Parents", e.Parents)
	}
	var kept [][]string // so that no text's memory is used again
	for _, e := range events {
		for _, l := range [][]string{x.Ancestors(e.ID), x.Ancestors(e.ID), x.Behind(e.ID), x.Behind(e.ID), x.Common(e.ID, "$a5"), x.Common(e.ID, e.ID)} {
			note("an answer", l)
			kept = append(kept, l)
		}
	}
	if len(kept) == 0 || len(texts) < 1000 {
		t.Fatalf("only %d texts", len(texts))
	}
}

// TestAskedTextsAreNotKept: the bytes behind a text that was asked may become others.
func TestAskedTextsAreNotKept(t *testing.T) {
	x := index.Of(dagOf(t, []api.Event{event("$a"), event("$b", "$a"), event("$c", "$b")}))
	bytes := []byte("$b")
	asked := unsafe.String(&bytes[0], len(bytes))
	if !x.Ahead(asked, "$c") || !x.Ahead("$a", asked) || x.Apart(asked, "$c") || len(x.Common(asked, "$c")) != 1 {
		t.Error("$b is not there")
	}
	before, behind := x.Ancestors(asked), x.Behind(asked)
	copy(bytes, "$q")
	if !slices.Equal(before, []string{"$a"}) || !slices.Equal(behind, []string{"$c"}) {
		t.Errorf("%q, %q", before, behind)
	}
	if l := x.Ancestors("$c"); !slices.Equal(l, []string{"$a", "$b"}) {
		t.Errorf("Ancestors($c) = %q", l)
	}
}

// TestEventsHandedInAreNotKept: the bytes of the events may become others behind Of, ahead of the first question.
func TestEventsHandedInAreNotKept(t *testing.T) {
	a, b, behind := []byte("$a"), []byte("$b"), []byte("$a")
	text := func(b []byte) string { return unsafe.String(&b[0], len(b)) }
	parents := []string{text(behind)}
	d := dag.New(room)
	d.Add(api.Event{ID: text(a), Room: room, User: "@a:s"})
	d.Add(api.Event{ID: text(b), Room: room, User: "@a:s", Parents: parents})
	x := index.Of(d)
	copy(a, "$x")
	copy(b, "$y")
	copy(behind, "$z")
	parents[0] = "$w"
	if !x.Ahead("$a", "$b") || x.Len() != 2 || !slices.Equal(x.Ancestors("$b"), []string{"$a"}) || !slices.Equal(x.Behind("$a"), []string{"$b"}) {
		t.Error("the index hangs on what was handed to the dag")
	}
}

// Each question may be the first one, and many hands may ask it.

// questions are one of each call, and whether it is answered as it must be in ladder(20).
func questions() map[string]func(x *index.Index) bool {
	events := ladder(20)
	want := tableOf(events)
	return map[string]func(x *index.Index) bool{
		"Len":       func(x *index.Index) bool { return x.Len() == 80 },
		"Ahead":     func(x *index.Index) bool { return x.Ahead("$a0", "$919") && !x.Ahead("$919", "$a0") },
		"Ahead q":   func(x *index.Index) bool { return !x.Ahead("$q", "$919") && !x.Ahead("$919", "$q") },
		"Apart":     func(x *index.Index) bool { return x.Apart("$a7", "$Z7") && !x.Apart("$a7", "$Z8") },
		"Apart q":   func(x *index.Index) bool { return !x.Apart("$q", "$a7") && !x.Apart("$a7", "$q") },
		"Ancestors": func(x *index.Index) bool { return slices.Equal(x.Ancestors("$-18"), want.ancestors["$-18"]) },
		"Behind":    func(x *index.Index) bool { return slices.Equal(x.Behind("$-1"), want.behind["$-1"]) },
		"Common":    func(x *index.Index) bool { return slices.Equal(x.Common("$a9", "$Z12"), want.common("$a9", "$Z12")) },
		"none": func(x *index.Index) bool {
			return len(x.Ancestors("")) == 0 && len(x.Behind("$q")) == 0 && len(x.Common("$q", "$a9")) == 0
		},
	}
}

func TestEachQuestionFirst(t *testing.T) {
	d := dagOf(t, ladder(20))
	for called, ask := range questions() {
		x := index.Of(d)
		for range 2 {
			if !ask(x) {
				t.Errorf("%s is answered wrong", called)
			}
		}
		checkTable(t, x, tableOf(ladder(20)))
	}
}

func TestManyHands(t *testing.T) {
	d := dagOf(t, ladder(20))
	all := questions()
	for range 50 {
		x := index.Of(d)
		begin := make(chan bool)
		var wait sync.WaitGroup
		for called, ask := range all {
			for range 3 {
				wait.Add(1)
				go func() {
					defer wait.Done()
					<-begin
					for range 3 {
						if !ask(x) {
							t.Errorf("%s is answered wrong", called)
						}
					}
				}()
			}
		}
		close(begin)
		wait.Wait()
	}
}

// TestManyHandsFirst: of a long row, the first question takes long enough that others come meanwhile.
func TestManyHandsFirst(t *testing.T) {
	const n = 2000
	d := dagOf(t, chain(n))
	for range 10 {
		x := index.Of(d)
		begin := make(chan bool)
		var wait sync.WaitGroup
		for hand := range 16 {
			wait.Add(1)
			go func() {
				defer wait.Done()
				<-begin
				a, b := chainID(hand), chainID(n-1-hand)
				if !x.Ahead(a, b) || x.Ahead(b, a) || x.Apart(a, b) || x.Len() != n {
					t.Errorf("%q is not ahead of %q", a, b)
				}
				if is := len(x.Ancestors(b)); is != n-1-hand {
					t.Errorf("%d are ahead of %q, want %d", is, b, n-1-hand)
				}
				if is := len(x.Common(b, a)); is != hand {
					t.Errorf("%d are ahead of both %q and %q, want %d", is, a, b, hand)
				}
				if is := len(x.Behind(a)); is != n-1-hand {
					t.Errorf("%d are behind %q, want %d", is, a, n-1-hand)
				}
			}()
		}
		close(begin)
		wait.Wait()
	}
}

// TestManyHandsWhileTheDagGrows: the dag's one hand may go on while others ask the index, and change what they were told.
func TestManyHandsWhileTheDagGrows(t *testing.T) {
	events := ladder(20)
	want := tableOf(events)
	for range 10 {
		d := dagOf(t, events)
		x := index.Of(d)
		begin := make(chan bool)
		var wait sync.WaitGroup
		for hand := range 8 {
			wait.Add(1)
			go func() {
				defer wait.Done()
				<-begin
				for i := range events {
					e := events[(i+hand*10)%len(events)]
					l := x.Ancestors(e.ID)
					if !slices.Equal(l, want.ancestors[e.ID]) {
						t.Errorf("Ancestors(%q) = %q", e.ID, l)
					}
					clear(l)
					l = x.Behind(e.ID)
					if !slices.Equal(l, want.behind[e.ID]) {
						t.Errorf("Behind(%q) = %q", e.ID, l)
					}
					clear(l)
				}
			}()
		}
		close(begin)
		last := "$a19"
		for i := range 100 {
			e := event(fmt.Sprintf("$more%d", i), last)
			if errno := d.Add(e); errno != api.OK {
				t.Error(errno)
			}
			last = e.ID
		}
		wait.Wait()
		if x.Len() != len(events) || d.Len() != len(events)+100 {
			t.Error(x.Len(), d.Len())
		}
	}
}

// TestLong: long rows are no burden.
func TestLong(t *testing.T) {
	const n = 5000
	x := index.Of(dagOf(t, chain(n)))
	first, middle, last := chainID(0), chainID(n/2), chainID(n-1)
	if !x.Ahead(first, last) || x.Ahead(last, first) || x.Apart(first, last) || x.Apart(last, first) {
		t.Error("Ahead or Apart")
	}
	for _, w := range []struct {
		called string
		list   []string
		from   int
		n      int
	}{
		{"Ancestors of the last", x.Ancestors(last), 0, n - 1},
		{"Ancestors of the middle", x.Ancestors(middle), 0, n / 2},
		{"Behind the first", x.Behind(first), 1, n - 1},
		{"Behind the middle", x.Behind(middle), n/2 + 1, n - n/2 - 1},
		{"Common of the middle and the last", x.Common(middle, last), 0, n / 2},
	} {
		if len(w.list) != w.n {
			t.Fatalf("%s: %d, want %d", w.called, len(w.list), w.n)
		}
		for i, id := range w.list {
			if id != chainID(w.from+i) {
				t.Fatalf("%s: %q at %d, want %q", w.called, id, i, chainID(w.from+i))
			}
		}
	}
	wide := index.Of(dagOf(t, beside(n)))
	if wide.Ahead(first, last) || !wide.Apart(first, last) || len(wide.Ancestors(last)) != 0 || len(wide.Behind(first)) != 0 || len(wide.Common(first, last)) != 0 {
		t.Error("events beside one another")
	}
}
