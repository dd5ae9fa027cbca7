package receipt_test

import (
	"fmt"
	"math"
	"math/rand"
	"slices"
	"strings"
	"testing"
	"unsafe"

	"concourse/api"
	"concourse/receipt"
)

// Keys and marks can be compared by ==: both may be a map's keys.
var (
	_ map[receipt.Key]bool
	_ map[receipt.Mark]bool
)

func at(depth int, id string) api.Position { return api.Position{Depth: depth, ID: id} }

func key(room, user, thread string) receipt.Key {
	return receipt.Key{Room: room, User: user, Thread: thread}
}

// private is a key's private one.
func private(k receipt.Key) receipt.Key {
	k.Private = true
	return k
}

func mark(k receipt.Key, depth int, id string) receipt.Mark {
	return receipt.Mark{Key: k, At: at(depth, id)}
}

// bytesRow is how texts stand byte by byte: -1, 0 or 1.
func bytesRow(a, b string) int { return slices.Compare([]byte(a), []byte(b)) }

// isAhead tells whether a position is ahead of another one, by chapter 7's words.
func isAhead(a, b api.Position) bool {
	if a.Depth != b.Depth {
		return a.Depth < b.Depth
	}
	return bytesRow(a.ID, b.ID) < 0
}

// keyRow is how keys stand, by the chapter's words.
func keyRow(a, b receipt.Key) int {
	for _, texts := range [][2]string{{a.Room, b.Room}, {a.User, b.User}, {a.Thread, b.Thread}} {
		if row := bytesRow(texts[0], texts[1]); row != 0 {
			return row
		}
	}
	switch {
	case !a.Private && b.Private:
		return -1
	case a.Private && !b.Private:
		return 1
	}
	return 0
}

// model is a table by the chapter's words: a plain list of marks, gone through whenever something is asked.
type model []receipt.Mark

func (m *model) put(k receipt.Key, at api.Position) bool {
	for i, mark := range *m {
		if mark.Key == k {
			if !isAhead(mark.At, at) {
				return false
			}
			(*m)[i].At = at
			return true
		}
	}
	*m = append(*m, receipt.Mark{Key: k, At: at})
	return true
}

func (m *model) merge(n model) int {
	count := 0
	for _, mark := range slices.Clone(n) {
		if m.put(mark.Key, mark.At) {
			count++
		}
	}
	return count
}

func (m model) get(k receipt.Key) (api.Position, bool) {
	for _, mark := range m {
		if mark.Key == k {
			return mark.At, true
		}
	}
	return api.Position{}, false
}

func (m model) all() []receipt.Mark {
	return slices.SortedFunc(slices.Values(m), func(a, b receipt.Mark) int { return keyRow(a.Key, b.Key) })
}

func (m model) public() []receipt.Mark {
	var public []receipt.Mark
	for _, mark := range m.all() {
		if !mark.Private {
			public = append(public, mark)
		}
	}
	return public
}

// parts tells where two rows part first.
func parts(got, want []receipt.Mark) string {
	for i := range min(len(got), len(want)) {
		if got[i] != want[i] {
			return fmt.Sprintf("%d of %d is %#v, want %#v", i, len(got), got[i], want[i])
		}
	}
	if len(got) != len(want) {
		return fmt.Sprintf("%d marks, want %d", len(got), len(want))
	}
	return ""
}

// wrong tells what a table answers otherwise than its model does, asked of all that changes nothing: of the model's keys, and of more.
func wrong(tab *receipt.Table, m model, more ...receipt.Key) string {
	if fault := parts(tab.All(), m.all()); fault != "" {
		return "All: " + fault
	}
	if fault := parts(tab.Public(), m.public()); fault != "" {
		return "Public: " + fault
	}
	if got := tab.Len(); got != len(m) {
		return fmt.Sprintf("Len is %d, want %d", got, len(m))
	}
	for _, mark := range m {
		more = append(more, mark.Key)
	}
	for _, k := range more {
		at, is := tab.Get(k)
		if wantAt, wantIs := m.get(k); at != wantAt || is != wantIs {
			return fmt.Sprintf("Get(%#v) is %v, %v, want %v, %v", k, at, is, wantAt, wantIs)
		}
	}
	return ""
}

func check(t testing.TB, tab *receipt.Table, m model, more ...receipt.Key) {
	t.Helper()
	if fault := wrong(tab, m, more...); fault != "" {
		t.Fatal(fault)
	}
}

// checkPut puts a mark in a table and in its model, and holds what both tell against each other.
func checkPut(t testing.TB, tab *receipt.Table, m *model, k receipt.Key, at api.Position) {
	t.Helper()
	want := m.put(k, at)
	if got := tab.Put(k, at); got != want {
		t.Fatalf("Put(%#v, %v) is %v", k, at, got)
	}
}

// of is a table of marks, put in that row.
func of(marks ...receipt.Mark) *receipt.Table {
	tab := receipt.New()
	for _, m := range marks {
		tab.Put(m.Key, m.At)
	}
	return tab
}

// modelOf is the same as a model.
func modelOf(marks ...receipt.Mark) model {
	m := model{}
	for _, mark := range marks {
		m.put(mark.Key, mark.At)
	}
	return m
}

// depths are such as edges are made of, rising.
func depths() []int {
	return []int{math.MinInt, math.MinInt + 1, -1 << 40, math.MinInt32, -7, -1, 0, 1, 7, math.MaxInt32, 1 << 32, 1 << 40, math.MaxInt - 1, math.MaxInt}
}

// texts are any, rising byte by byte: by no length, no letter's case and no rune.
func texts() []string {
	return []string{"", "\x00", "\x00\x00", "\x01", " ", "$10", "$9", "@a:s", "B", "a", "a\x00", "aa", "aaa", "ab", "b", "ba", "main", "\x7f", "\x80", "\u00e9", "\uffff", "\U00010000", "\xff", "\xff\x00", "\xff\xff"}
}

// keysOf is the keys of all these rooms, users and threads, private or not, in their row, if the texts rise.
func keysOf(texts []string) []receipt.Key {
	var keys []receipt.Key
	for _, room := range texts {
		for _, user := range texts {
			for _, thread := range texts {
				k := key(room, user, thread)
				keys = append(keys, k, private(k))
			}
		}
	}
	return keys
}

// some is marks in their row: several of a room, of a user and of a thread, of privates with and without their public ones.
func some() []receipt.Mark {
	return []receipt.Mark{
		mark(key("", "", ""), 0, ""),
		mark(key("!q:s", "@a:s", ""), 3, "$c"),
		mark(private(key("!q:s", "@a:s", "")), 5, "$e"),
		mark(key("!q:s", "@a:s", "main"), 3, "$c"),
		mark(key("!q:s", "@b:t", "$a"), 1, "$b"),
		mark(private(key("!q:s", "@b:t", "main")), 0, "$a"),
		mark(key("!r:s", "@a:s", ""), 7, "$0"),
		mark(private(key("!r:s", "@c:u", "$d")), 4, "$f"),
		mark(key("!r:s", "@c:u", "main"), 2, "$z"),
	}
}

// absent is keys of which some has no mark, most of them near those of which it has one.
func absent() []receipt.Key {
	return []receipt.Key{
		private(receipt.Key{}), key("!q:s", "", ""), key("", "@a:s", ""), key("", "", "main"), key("!q:s", "@a:s", "$a"),
		private(key("!q:s", "@a:s", "main")), private(key("!q:s", "@b:t", "$a")), key("!q:s", "@b:t", "main"), key("!q:s", "@b:t", ""),
		key("!r:s", "@b:t", "$a"), private(key("!r:s", "@a:s", "")), key("!r:s", "@c:u", "$d"), key("!r:s", "@c:u", ""),
		key("!r:s@a:s", "", ""), key("@a:s", "!r:s", ""), key("!r:s", "", "@a:s"), key("!R:s", "@a:s", ""), key("!r:s", "@a:s", "\x00"), key("!r:s ", "@a:s", ""),
	}
}

// eachRow tells all rows of 0 to n-1.
func eachRow(n int, tell func(row []int)) {
	row := make([]int, n)
	for i := range row {
		row[i] = i
	}
	var turn func(from int)
	turn = func(from int) {
		if from == n {
			tell(row)
			return
		}
		for i := from; i < n; i++ {
			row[from], row[i] = row[i], row[from]
			turn(from + 1)
			row[from], row[i] = row[i], row[from]
		}
	}
	turn(0)
}

// P11.1

func TestExample(t *testing.T) {
	tab, k := receipt.New(), key("!r:s", "@a:s", "")
	for _, x := range []struct {
		at   api.Position
		want bool
	}{{at(2, "$b"), true}, {at(1, "$a"), false}, {at(2, "$c"), true}} {
		if got := tab.Put(k, x.at); got != x.want {
			t.Errorf("Put(%v) is %v", x.at, got)
		}
	}
	check(t, tab, model{mark(k, 2, "$c")})
}

func TestNewIsWithoutMarks(t *testing.T) {
	tab := receipt.New()
	for _, k := range keysOf([]string{"", "!r:s", "@a:s", "main"}) {
		if got, is := tab.Get(k); got != (api.Position{}) || is {
			t.Errorf("Get(%#v) is %v, %v", k, got, is)
		}
	}
	if len(tab.All()) != 0 || len(tab.Public()) != 0 || tab.Len() != 0 {
		t.Errorf("%d marks in All, %d in Public, Len is %d", len(tab.All()), len(tab.Public()), tab.Len())
	}
}

// TestTablesAreApart: what one of them is told another one does not have.
func TestTablesAreApart(t *testing.T) {
	a, b, c := of(some()...), of(some()...), receipt.New()
	k := some()[6].Key
	b.Put(k, at(9, "$z"))
	b.Put(key("!new:s", "@a:s", ""), at(1, "$a"))
	c.Put(k, at(1, "$a"))
	check(t, a, some(), absent()...)
	check(t, c, model{mark(k, 1, "$a")}, absent()...)
	check(t, b, modelOf(append(some(), mark(k, 9, "$z"), mark(key("!new:s", "@a:s", ""), 1, "$a"))...), absent()...)
}

// TestEachTwoPositions: a mark goes from one to the other only, if this one is greater, by its depth, then by its ID.
func TestEachTwoPositions(t *testing.T) {
	var all []api.Position // rising
	for _, depth := range depths() {
		for _, id := range texts() {
			all = append(all, at(depth, id))
		}
	}
	k := key("!r:s", "@a:s", "main")
	for i, first := range all {
		for j, second := range all {
			tab := receipt.New()
			if !tab.Put(k, first) {
				t.Fatalf("Put(%v) is false, and there was no mark", first)
			}
			if got := tab.Put(k, second); got != (j > i) {
				t.Fatalf("%v, then Put(%v) is %v", first, second, got)
			}
			if got, is := tab.Get(k); got != all[max(i, j)] || !is {
				t.Fatalf("%v, then %v: %v, %v", first, second, got, is)
			}
			if tab.Len() != 1 {
				t.Fatalf("%v, then %v: Len is %d", first, second, tab.Len())
			}
		}
	}
}

// TestZeroPosition is a mark as any other one.
func TestZeroPosition(t *testing.T) {
	for _, k := range []receipt.Key{{}, private(receipt.Key{}), key("!r:s", "@a:s", "")} {
		tab, m := receipt.New(), model{}
		for _, x := range []struct {
			at   api.Position
			want bool
		}{{api.Position{}, true}, {api.Position{}, false}, {at(-1, "$z"), false}, {at(0, "\x00"), true}, {api.Position{}, false}} {
			if got := tab.Put(k, x.at); got != x.want {
				t.Errorf("Put(%v) is %v", x.at, got)
			}
			m.put(k, x.at)
			check(t, tab, m)
		}
	}
	tab := of(mark(key("!r:s", "@a:s", ""), math.MinInt, ""))
	check(t, tab, model{mark(key("!r:s", "@a:s", ""), math.MinInt, "")}, absent()...)
}

// TestPutOfEachOfMany: behind, at and ahead of where its mark is; all others stay.
func TestPutOfEachOfMany(t *testing.T) {
	for i, was := range some() {
		for _, next := range []api.Position{
			at(was.At.Depth-1, "$zz"), at(was.At.Depth, was.At.ID), at(was.At.Depth, ""), at(was.At.Depth, was.At.ID+"\x00"), at(was.At.Depth, "\xff"), at(was.At.Depth+1, ""),
		} {
			tab, m := of(some()...), model(some())
			checkPut(t, tab, &m, was.Key, next)
			check(t, tab, m, absent()...)
			checkPut(t, tab, &m, was.Key, next)
			check(t, tab, m, absent()...)
			if m[i].Key != was.Key {
				t.Fatal("the test's own model has another row")
			}
		}
	}
}

// TestKeysThatAreNotThere: the zero position and false, and a mark at whatever position comes first.
func TestKeysThatAreNotThere(t *testing.T) {
	for _, k := range absent() {
		tab, m := of(some()...), model(some())
		if got, is := tab.Get(k); got != (api.Position{}) || is {
			t.Errorf("Get(%#v) is %v, %v", k, got, is)
		}
		checkPut(t, tab, &m, k, at(-3, "$m"))
		check(t, tab, m, absent()...)
	}
}

// TestKeysThatPartInOneField have each a mark of their own: so have those whose texts make the same one, laid behind each other.
func TestKeysThatPartInOneField(t *testing.T) {
	keys := keysOf([]string{"", "a", "aa", "b", "A", "a\x00", "\x00a"})
	tab, m := receipt.New(), model{}
	for i, k := range keys {
		if !tab.Put(k, at(i, "$a")) {
			t.Fatalf("Put(%#v) is false", k)
		}
		m = append(m, mark(k, i, "$a"))
	}
	check(t, tab, m)
	for i, k := range keys { // none goes on, or stays, with another one's
		next, goesOn := at(i-1, "$z"), i%3 == 0
		if goesOn {
			next = at(i+1, "$z")
			m[i].At = next
		}
		if got := tab.Put(k, next); got != goesOn {
			t.Fatalf("Put(%#v) is %v", k, got)
		}
	}
	check(t, tab, m)
}

// P11.2

// TestSomeInTheirRow: in whatever row they came.
func TestSomeInTheirRow(t *testing.T) {
	marks := some()
	random := rand.New(rand.NewSource(1))
	for range 200 {
		tab := receipt.New()
		for _, i := range random.Perm(len(marks)) {
			tab.Put(marks[i].Key, marks[i].At)
		}
		if fault := parts(tab.All(), marks); fault != "" {
			t.Fatalf("All: %s", fault)
		}
		if fault := parts(tab.Public(), []receipt.Mark{marks[0], marks[1], marks[3], marks[4], marks[6], marks[8]}); fault != "" {
			t.Fatalf("Public: %s", fault)
		}
		if tab.Len() != len(marks) {
			t.Fatalf("Len is %d", tab.Len())
		}
	}
}

// TestMarksAreAskedForTheirKeysFields as for their own.
func TestMarksAreAskedForTheirKeysFields(t *testing.T) {
	m := of(mark(private(key("!r:s", "@a:s", "main")), 2, "$b")).All()[0]
	if m.Room != "!r:s" || m.User != "@a:s" || m.Thread != "main" || !m.Private || m.At != at(2, "$b") {
		t.Errorf("%#v", m)
	}
	if m.Key != private(key("!r:s", "@a:s", "main")) {
		t.Errorf("%#v", m.Key)
	}
}

// TestTheRowIsByRoomUserThread: an earlier field's row is ahead of all later ones', a position's is of no weight.
func TestTheRowIsByRoomUserThread(t *testing.T) {
	marks := []receipt.Mark{
		mark(key("!a:s", "@z:z", "main"), 9, "$z"),
		mark(private(key("!a:s", "@z:z", "main")), 1, "$a"),
		mark(key("!b:s", "@a:z", "main"), 8, "$y"),
		mark(private(key("!b:s", "@a:z", "main")), 9, "$z"),
		mark(private(key("!b:s", "@b:a", "")), 7, "$x"),
		mark(key("!b:s", "@b:a", "$a"), 6, "$w"),
		mark(private(key("!b:s", "@b:a", "$a")), 6, "$v"),
		mark(key("!b:s", "@b:a", "main"), 5, "$u"),
		mark(key("!b:s", "@b:b", "$Z"), 4, "$t"),
		mark(private(key("!b:s", "@b:b", "$a")), 3, "$s"),
		mark(key("!b:s", "@b:b", "$aa"), 2, "$r"),
		mark(key("!ba:s", "@a:a", ""), 1, "$q"),
	}
	tab := receipt.New()
	for i := range marks {
		m := marks[i*5%len(marks)] // each once, in another row
		tab.Put(m.Key, m.At)
	}
	if fault := parts(tab.All(), marks); fault != "" {
		t.Errorf("All: %s", fault)
	}
	var public []receipt.Mark
	for _, i := range []int{0, 2, 5, 7, 8, 10, 11} {
		public = append(public, marks[i])
	}
	if fault := parts(tab.Public(), public); fault != "" {
		t.Errorf("Public: %s", fault)
	}
}

// TestAllTextsInTheirRow: every room, user and thread of many texts, put in a row of chance.
func TestAllTextsInTheirRow(t *testing.T) {
	all := texts()
	if !slices.IsSortedFunc(all, bytesRow) {
		t.Fatal("the texts do not rise")
	}
	keys := keysOf(all)
	tab := receipt.New()
	for _, i := range rand.New(rand.NewSource(2)).Perm(len(keys)) {
		tab.Put(keys[i], at(i, "$a"))
	}
	if tab.Len() != len(keys) {
		t.Fatalf("Len is %d, want %d", tab.Len(), len(keys))
	}
	var marks, public []receipt.Mark
	for i, k := range keys {
		marks = append(marks, mark(k, i, "$a"))
		if !k.Private {
			public = append(public, mark(k, i, "$a"))
		}
	}
	if fault := parts(tab.All(), marks); fault != "" {
		t.Errorf("All: %s", fault)
	}
	if fault := parts(tab.Public(), public); fault != "" {
		t.Errorf("Public: %s", fault)
	}
}

// TestPublicOfOneKindOnly: of tables that have none, or nothing but private marks.
func TestPublicOfOneKindOnly(t *testing.T) {
	publics := model(some()).public()
	var privates model
	for _, m := range publics {
		privates = append(privates, receipt.Mark{Key: private(m.Key), At: m.At})
	}
	check(t, of(publics...), publics, absent()...)
	check(t, of(privates...), privates, absent()...)
	if fault := parts(of(privates...).Public(), nil); fault != "" {
		t.Errorf("of private marks: %s", fault)
	}
	if fault := parts(of(publics...).Public(), publics); fault != "" {
		t.Errorf("of public marks: %s", fault)
	}
}

// TestCompare: for all pairs of keys, -1, 0 or 1, as they stand in the row.
func TestCompare(t *testing.T) {
	keys := keysOf([]string{"", "\x00", "A", "a", "a\x00", "aa", "b", "\u00e9", "\xff"})
	for i, a := range keys {
		for j, b := range keys {
			want := 0
			switch {
			case i < j:
				want = -1
			case i > j:
				want = 1
			}
			if got := receipt.Compare(a, b); got != want {
				t.Fatalf("Compare(%#v, %#v) is %d, want %d", a, b, got, want)
			}
		}
	}
}

// TestCompareOfEachText in each of the fields, and of the one field ahead of another one.
func TestCompareOfEachText(t *testing.T) {
	all := texts()
	for i, a := range all {
		for j, b := range all {
			want := slices.Compare([]int{i}, []int{j})
			for field, pair := range map[string][2]receipt.Key{
				"Room":   {key(a, "x", "y"), key(b, "x", "y")},
				"User":   {key("x", a, "y"), key("x", b, "y")},
				"Thread": {key("x", "y", a), key("x", "y", b)},
			} {
				if got := receipt.Compare(pair[0], pair[1]); got != want {
					t.Fatalf("%s: Compare of %q and %q is %d", field, a, b, got)
				}
				if i == j {
					continue
				}
				if got := receipt.Compare(private(pair[0]), pair[1]); got != want { // a text is ahead of privacy
					t.Fatalf("%s: Compare of a private %q and %q is %d", field, a, b, got)
				}
			}
			if i == j {
				continue
			}
			if got := receipt.Compare(key(a, b, b), key(b, a, a)); got != want {
				t.Fatalf("Compare of %q and %q as rooms, turned as users and threads, is %d", a, b, got)
			}
			if got := receipt.Compare(key("x", a, b), key("x", b, a)); got != want {
				t.Fatalf("Compare of %q and %q as users, turned as threads, is %d", a, b, got)
			}
		}
	}
}

// tables is every table of three keys, each of which has no mark, or one of three.
func tables() []model {
	k := key("!r:s", "@a:s", "main")
	keys := []receipt.Key{k, private(k), key("!r:s", "@a:s", "")}
	positions := []api.Position{{}, at(1, "$b"), at(2, "$a")}
	var all []model
	for n := range 4 * 4 * 4 {
		m := model{}
		for _, k := range keys {
			if n%4 > 0 {
				m = append(m, receipt.Mark{Key: k, At: positions[n%4-1]})
			}
			n /= 4
		}
		all = append(all, m)
	}
	return all
}

// TestMergeOfEachTwo of few marks: how many went on, and what both are then.
func TestMergeOfEachTwo(t *testing.T) {
	for _, a := range tables() {
		for _, b := range tables() {
			tab, other, m := of(a...), of(b...), slices.Clone(a)
			want := m.merge(b)
			if got := tab.Merge(other); got != want {
				t.Fatalf("Merge of %v in %v is %d, want %d", b, a, got, want)
			}
			check(t, tab, m, absent()...)
			check(t, other, b, absent()...) // it is only asked
			if got := tab.Merge(other); got != 0 {
				t.Fatalf("Merge of %v in %v once more is %d", b, a, got)
			}
			check(t, tab, m, absent()...)
		}
	}
}

func TestMergeOfItself(t *testing.T) {
	for _, m := range append(tables(), some()) {
		tab := of(m...)
		if got := tab.Merge(tab); got != 0 {
			t.Fatalf("Merge of %v in itself is %d", m, got)
		}
		check(t, tab, m, absent()...)
	}
}

func TestMergeWithNone(t *testing.T) {
	tab, none := of(some()...), receipt.New()
	if got := tab.Merge(none); got != 0 {
		t.Errorf("Merge of none is %d", got)
	}
	check(t, tab, some(), absent()...)
	check(t, none, nil, absent()...)
	if got := none.Merge(tab); got != len(some()) {
		t.Errorf("Merge in one without marks is %d", got)
	}
	check(t, none, some(), absent()...)
	check(t, tab, some(), absent()...)
}

// TestMergedTablesAreApart: what one is told behind it the other one does not have.
func TestMergedTablesAreApart(t *testing.T) {
	tab, other := receipt.New(), of(some()...)
	tab.Merge(other)
	k := some()[3].Key
	other.Put(k, at(100, "$a"))
	other.Put(absent()[0], at(1, "$a"))
	check(t, tab, some(), absent()...)
	tab.Put(k, at(50, "$a"))
	tab.Put(absent()[1], at(1, "$a"))
	check(t, other, modelOf(append(some(), mark(k, 100, "$a"), mark(absent()[0], 1, "$a"))...), absent()...)
	check(t, tab, modelOf(append(some(), mark(k, 50, "$a"), mark(absent()[1], 1, "$a"))...), absent()...)
}

// P11.3

// TestAMarkOnlyGoesOn: whatever is put, a mark rises strictly, or stays.
func TestAMarkOnlyGoesOn(t *testing.T) {
	random := rand.New(rand.NewSource(3))
	keys := keysOf([]string{"a", "b"})
	for range 50 {
		tab := receipt.New()
		for range 300 {
			k, next := keys[random.Intn(len(keys))], at(random.Intn(9), fmt.Sprint("$", random.Intn(12)))
			before, was := tab.Get(k)
			went := tab.Put(k, next)
			behind, is := tab.Get(k)
			switch {
			case !is:
				t.Fatalf("no mark of %#v behind Put", k)
			case went && (behind != next || was && !isAhead(before, behind)):
				t.Fatalf("Put(%v) is true: from %v to %v", next, before, behind)
			case !went && (!was || behind != before || isAhead(before, next)):
				t.Fatalf("Put(%v) is false: from %v (%v) to %v", next, before, was, behind)
			}
		}
	}
}

// puts is marks of few keys, of which some go on, some do not, and one comes twice.
func puts() []receipt.Mark {
	k := key("!r:s", "@a:s", "")
	return []receipt.Mark{
		mark(k, 2, "$b"), mark(k, 10, "$a"), mark(private(k), 2, "$a"), mark(k, 9, "$z"),
		mark(private(k), 2, "$b"), mark(k, 10, "$a"), mark(key("!r:s", "@a:s", "main"), 0, ""),
	}
}

// TestEveryRowOfPuts makes the same table.
func TestEveryRowOfPuts(t *testing.T) {
	marks := puts()
	want := model{marks[1], marks[4], marks[6]}
	eachRow(len(marks), func(row []int) {
		tab, m := receipt.New(), model{}
		for _, i := range row {
			checkPut(t, tab, &m, marks[i].Key, marks[i].At)
		}
		if fault := wrong(tab, want); fault != "" {
			t.Fatalf("%v: %s", row, fault)
		}
	})
}

// TestHoweverOften: each mark up to three times, in rows of chance, makes the same table.
func TestHoweverOften(t *testing.T) {
	random := rand.New(rand.NewSource(4))
	for range 300 {
		var marks []receipt.Mark
		keys := keysOf([]string{"a", "aa"})
		for range 40 {
			marks = append(marks, mark(keys[random.Intn(len(keys))], random.Intn(6), fmt.Sprint("$", random.Intn(12))))
		}
		want := modelOf(marks...)
		for range 3 {
			often := slices.Clone(marks)
			for range 2 * len(marks) {
				often = append(often, marks[random.Intn(len(marks))])
			}
			random.Shuffle(len(often), func(i, j int) { often[i], often[j] = often[j], often[i] })
			tab, m := receipt.New(), model{}
			for _, x := range often {
				checkPut(t, tab, &m, x.Key, x.At)
			}
			check(t, tab, want)
		}
	}
}

// TestMergesInAnyRow: three tables make the same one, whichever comes first, and however they are put together.
func TestMergesInAnyRow(t *testing.T) {
	random := rand.New(rand.NewSource(5))
	keys := keysOf([]string{"a", "b"})
	for range 100 {
		var lists [3][]receipt.Mark
		var every []receipt.Mark
		for i := range lists {
			for range random.Intn(20) {
				lists[i] = append(lists[i], mark(keys[random.Intn(len(keys))], random.Intn(4), fmt.Sprint("$", random.Intn(4))))
			}
			every = append(every, lists[i]...)
		}
		want := modelOf(every...)
		eachRow(len(lists), func(row []int) {
			a, b, c := of(lists[row[0]]...), of(lists[row[1]]...), of(lists[row[2]]...)
			b.Merge(c)
			a.Merge(b)
			check(t, a, want)
			d, m := receipt.New(), model{}
			for _, i := range row {
				n := modelOf(lists[i]...)
				if got, counted := d.Merge(of(lists[i]...)), m.merge(n); got != counted {
					t.Fatalf("Merge is %d, want %d", got, counted)
				}
			}
			check(t, d, want)
		})
	}
}

// TestRowsOfChance: puts and merges of two tables, held against their models behind each step.
func TestRowsOfChance(t *testing.T) {
	random := rand.New(rand.NewSource(6))
	keys := keysOf([]string{"", "a", "\xff"})
	for range 100 {
		tabs, models := [2]*receipt.Table{receipt.New(), receipt.New()}, [2]model{}
		for range 100 {
			i := random.Intn(2)
			if random.Intn(12) > 0 {
				checkPut(t, tabs[i], &models[i], keys[random.Intn(len(keys))], at(random.Intn(5)-1, fmt.Sprint("$", random.Intn(12))))
			} else if got, want := tabs[i].Merge(tabs[1-i]), models[i].merge(models[1-i]); got != want {
				t.Fatalf("Merge is %d, want %d", got, want)
			}
			check(t, tabs[0], models[0], keys...)
			check(t, tabs[1], models[1], keys...)
		}
	}
}

// TestManyMarks: each is put three times, and goes on twice.
func TestManyMarks(t *testing.T) {
	const many = 50000
	tab := receipt.New()
	random := rand.New(rand.NewSource(7))
	count := 0
	for _, depth := range []int{1, 3, 2} {
		for _, i := range random.Perm(many) {
			if tab.Put(receipt.Key{Room: fmt.Sprint("!", i/1000, ":s"), User: fmt.Sprint("@", i/2, ":t"), Private: i%2 == 1}, at(depth, fmt.Sprint("$", i))) {
				count++
			}
		}
	}
	all := tab.All()
	if count != 2*many || tab.Len() != many || len(all) != many || len(tab.Public()) != many/2 {
		t.Fatalf("%d puts were true, %d marks, All has %d, Public %d", count, tab.Len(), len(all), len(tab.Public()))
	}
	for i, m := range all {
		if m.At.Depth != 3 || i > 0 && keyRow(all[i-1].Key, m.Key) >= 0 {
			t.Fatalf("All's %d is %#v", i, m)
		}
	}
	other := receipt.New()
	if got := other.Merge(tab); got != many || !slices.Equal(other.All(), all) {
		t.Fatalf("Merge is %d", got)
	}
}

// The rules of all layers

// TestAskingChangesNothing, and tells the same again.
func TestAskingChangesNothing(t *testing.T) {
	tab := of(some()...)
	for range 30 {
		check(t, tab, some(), absent()...)
	}
}

func TestAnswersMayBeChanged(t *testing.T) {
	tab := of(some()...)
	for _, l := range [][]receipt.Mark{tab.All(), tab.Public()} {
		spare := l[:cap(l)]
		for i := range spare {
			spare[i] = mark(key("!changed:s", "@changed:s", ""), 99, "$changed")
		}
		l = append(l, spare...)
		check(t, tab, some(), absent()...)
	}
}

// TestWhatWasToldStays: whatever comes behind it.
func TestWhatWasToldStays(t *testing.T) {
	tab := of(some()...)
	all, public := tab.All(), tab.Public()
	was, _ := tab.Get(some()[1].Key)
	for _, m := range some() {
		tab.Put(m.Key, at(m.At.Depth+1, "$new"))
	}
	tab.Put(absent()[0], at(1, "$new"))
	tab.Merge(of(mark(absent()[1], 1, "$new"), mark(some()[0].Key, 1000, "$new")))
	if m := model(some()); !slices.Equal(all, m.all()) || !slices.Equal(public, m.public()) || was != some()[1].At {
		t.Errorf("%v, %v, %v", all, public, was)
	}
}

// TestNoPrivateMarkIsInPublicsSpareRoom.
func TestNoPrivateMarkIsInPublicsSpareRoom(t *testing.T) {
	public := of(some()...).Public()
	for _, m := range public[:cap(public)] {
		if m.Private {
			t.Errorf("%#v", m)
		}
	}
}

// TestTextsHandedInMayBecomeOthers, behind whatever call: of a new mark, of one that goes on, of one that does not, of one asked for.
func TestTextsHandedInMayBecomeOthers(t *testing.T) {
	var handed [][]byte
	own := func(s string) string {
		b := []byte(s + "\x00")
		handed = append(handed, b)
		return unsafe.String(&b[0], len(s))
	}
	ownKey := func(k receipt.Key) receipt.Key {
		return receipt.Key{Room: own(k.Room), User: own(k.User), Thread: own(k.Thread), Private: k.Private}
	}
	tab, merged := receipt.New(), receipt.New()
	for _, m := range some() {
		tab.Put(ownKey(m.Key), at(m.At.Depth-1, own("$first")))
		tab.Put(ownKey(m.Key), at(m.At.Depth, own(m.At.ID)))
		tab.Put(ownKey(m.Key), at(m.At.Depth, own(m.At.ID)))
		tab.Put(ownKey(m.Key), at(m.At.Depth-1, own("$back")))
		tab.Get(ownKey(m.Key))
	}
	merged.Merge(tab)
	for _, b := range handed {
		for i := range b {
			b[i] = '?'
		}
	}
	check(t, tab, some(), absent()...)
	check(t, merged, some(), absent()...)
}

// TestNoTextIsShared between two answers, or an answer and what was handed in.
func TestNoTextIsShared(t *testing.T) {
	texts := map[*byte]string{} // the addresses hold on to the texts, so that no memory is used again
	note := func(called string, l ...string) {
		t.Helper()
		for _, s := range l {
			if s == "" {
				continue
			}
			at := unsafe.StringData(s)
			if first, is := texts[at]; is {
				t.Fatalf("%s and %s share the text %q", called, first, s)
			}
			texts[at] = called
		}
	}
	noteMarks := func(called string, marks []receipt.Mark) {
		t.Helper()
		for _, m := range marks {
			note(called, m.Room, m.User, m.Thread, m.At.ID)
		}
	}
	tab, merged := receipt.New(), receipt.New()
	for _, depth := range []int{-10, 0} { // each mark comes, and goes on
		for _, m := range some() {
			m = receipt.Mark{
				Key: receipt.Key{Room: strings.Clone(m.Room), User: strings.Clone(m.User), Thread: strings.Clone(m.Thread), Private: m.Private},
				At:  at(m.At.Depth+depth, strings.Clone(m.At.ID)),
			}
			noteMarks("what is handed in", []receipt.Mark{m})
			tab.Put(m.Key, m.At)
		}
	}
	merged.Merge(tab)
	for range 3 {
		for what, asked := range map[string]*receipt.Table{"": tab, " of the merged one": merged} {
			noteMarks("All"+what, asked.All())
			noteMarks("Public"+what, asked.Public())
			for _, m := range some() {
				at, _ := asked.Get(m.Key)
				note("Get"+what, at.ID)
			}
		}
	}
}
