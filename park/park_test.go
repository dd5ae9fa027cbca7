package park_test

import (
	"fmt"
	"math"
	"math/rand"
	"slices"
	"strings"
	"testing"
	"unsafe"

	"concourse/api"
	"concourse/park"
)

// model is a park by the chapter's words: a plain list, gone through by hand whenever something is asked.
type model struct {
	most int
	edus []api.Edu
	lost int
}

func (m *model) has(e api.Edu) bool {
	for _, x := range m.edus {
		if x == e {
			return true
		}
	}
	return false
}

func (m *model) put(e api.Edu) (api.Edu, bool) {
	if m.has(e) {
		return api.Edu{}, false
	}
	edus := append(slices.Clone(m.edus), e)
	if len(edus) > m.most {
		m.edus = edus[1:]
		m.lost++
		return edus[0], true
	}
	m.edus = edus
	return api.Edu{}, false
}

func (m *model) take(room, event string) []api.Edu {
	var taken, left []api.Edu
	for _, e := range m.edus {
		if e.Room == room && e.Event == event {
			taken = append(taken, e)
		} else {
			left = append(left, e)
		}
	}
	m.edus = left
	return taken
}

// parts tells where two rows part first.
func parts(got, want []api.Edu) string {
	for i := range min(len(got), len(want)) {
		if got[i] != want[i] {
			return fmt.Sprintf("%d of %d is %+v, want %+v", i, len(got), got[i], want[i])
		}
	}
	if len(got) != len(want) {
		return fmt.Sprintf("%d EDUs, want %d", len(got), len(want))
	}
	return ""
}

// wrong tells what a park answers otherwise than its model does, asked of all that changes nothing.
func wrong(p *park.Park, m *model) string {
	if fault := parts(p.All(), m.edus); fault != "" {
		return "All: " + fault
	}
	if got := p.Len(); got != len(m.edus) {
		return fmt.Sprintf("Len is %d, want %d", got, len(m.edus))
	}
	if got := p.Lost(); got != m.lost {
		return fmt.Sprintf("Lost is %d, want %d", got, m.lost)
	}
	return ""
}

// checkIs: the park has just these EDUs, in this row, and so many have gone.
func checkIs(t testing.TB, p *park.Park, lost int, edus ...api.Edu) {
	t.Helper()
	if fault := wrong(p, &model{edus: edus, lost: lost}); fault != "" {
		t.Fatal(fault)
	}
}

func checkPut(t testing.TB, p *park.Park, e api.Edu) {
	t.Helper()
	if gone, is := p.Put(e); gone != (api.Edu{}) || is {
		t.Fatalf("Put(%+v) is %+v, %v", e, gone, is)
	}
}

func checkGoes(t testing.TB, p *park.Park, e, want api.Edu) {
	t.Helper()
	if gone, is := p.Put(e); gone != want || !is {
		t.Fatalf("Put(%+v) is %+v, %v, want %+v", e, gone, is, want)
	}
}

func checkTake(t testing.TB, p *park.Park, room, event string, want ...api.Edu) {
	t.Helper()
	if fault := parts(p.Take(room, event), want); fault != "" {
		t.Fatalf("Take(%q, %q): %s", room, event, fault)
	}
}

// step is one call that changes a park: Put, or Take of the EDU's Room and Event.
type step struct {
	takes bool
	e     api.Edu
}

func put(e api.Edu) step                 { return step{e: e} }
func take(room, event string) step       { return step{true, api.Edu{Room: room, Event: event}} }
func (s step) String() string            { return fmt.Sprintf("takes %v, %+v", s.takes, s.e) }
func both(most int) (*park.Park, *model) { return of(most), &model{most: most} }

// do takes a step of a park and of its model, and tells what both answer otherwise, then or behind it.
func (s step) do(p *park.Park, m *model) string {
	if s.takes {
		if fault := parts(p.Take(s.e.Room, s.e.Event), m.take(s.e.Room, s.e.Event)); fault != "" {
			return "Take: " + fault
		}
		return wrong(p, m)
	}
	want, wantIs := m.put(s.e)
	if gone, is := p.Put(s.e); gone != want || is != wantIs {
		return fmt.Sprintf("Put is %+v, %v, want %+v, %v", gone, is, want, wantIs)
	}
	return wrong(p, m)
}

// follow takes the steps of a new park and of its model.
func follow(t testing.TB, most int, steps ...step) {
	t.Helper()
	p, m := both(most)
	for i, s := range steps {
		if fault := s.do(p, m); fault != "" {
			t.Fatalf("bound %d: %v: step %d (%v): %s", most, steps, i, s, fault)
		}
	}
}

// of is a park of that bound, in which these are put.
func of(most int, edus ...api.Edu) *park.Park {
	p, errno := park.New(most)
	if errno != api.OK {
		panic(errno)
	}
	for _, e := range edus {
		p.Put(e)
	}
	return p
}

func edu(room, event string, stamp int) api.Edu {
	return api.Edu{Kind: api.Receipt, Room: room, User: "@a:s", Event: event, Thread: "main", Stamp: stamp}
}

// numbered is so many EDUs, of few events, rising by their Stamps.
func numbered(from, to int) []api.Edu {
	var edus []api.Edu
	for n := from; n < to; n++ {
		edus = append(edus, edu("!r:s", fmt.Sprint("$", n%7), n))
	}
	return edus
}

// some is EDUs of several rooms and events, of which one room has more than one event, one event is in more than one room, and several are of both.
func some() []api.Edu {
	whole := api.Edu{Kind: api.Receipt, Room: "!r:s", User: "@b:t", Event: "$a", Thread: "$t", Private: true, On: true, Span: 5, State: api.Away, Tick: 3, Stamp: 4}
	typing := api.Edu{Kind: api.Typing, Room: "!r:s", User: "@a:s", On: true, Span: 9, Stamp: 2}
	there := api.Edu{Kind: api.Presence, User: "@a:s", State: api.Online, Stamp: 7}
	return []api.Edu{
		edu("!r:s", "$a", 9), edu("!r:s", "$b", 1), typing, edu("!q:s", "$a", 1), whole, edu("!r:s", "$a", 2),
		{}, edu("!q:s", "$b", 0), there, edu("", "$a", 1), edu("!r:s", "$a", 1), edu("!q:s", "$a", 5),
	}
}

// numbers are such as edges are made of.
func numbers() []int {
	return []int{math.MinInt, math.MinInt32, -1000, -1, 0, 1, 2, 60, 999, 1000, 1001, math.MaxInt32, 1 << 32, 1 << 40, 1<<40 + 1, math.MaxInt}
}

// texts are any: such as differ by their length, by a letter's case, or by one byte.
func texts() []string {
	return []string{"", "\x00", " ", "!r:s", "!r:s ", "$a", "$A", "$a\x00", "$aa", "@a:s", "main", "\xff", "\u00e9", strings.Repeat("a", 1000)}
}

// near is EDUs that part from some one in just one field, and that one.
func near() []api.Edu {
	e := api.Edu{Kind: 1, Room: "?", User: "?", Event: "?", Thread: "?", Private: true, On: true, Span: -5, State: -5, Tick: -5, Stamp: -5}
	all := []api.Edu{e}
	add := func(change func(e *api.Edu)) {
		changed := e
		change(&changed)
		all = append(all, changed)
	}
	add(func(e *api.Edu) { e.Private = false })
	add(func(e *api.Edu) { e.On = false })
	for _, s := range texts() {
		add(func(e *api.Edu) { e.Room = s })
		add(func(e *api.Edu) { e.User = s })
		add(func(e *api.Edu) { e.Event = s })
		add(func(e *api.Edu) { e.Thread = s })
	}
	for _, n := range numbers() {
		add(func(e *api.Edu) { e.Span = n })
		add(func(e *api.Edu) { e.State = n })
		add(func(e *api.Edu) { e.Tick = n })
		add(func(e *api.Edu) { e.Stamp = n })
		if n != e.Kind {
			add(func(e *api.Edu) { e.Kind = n })
		}
	}
	return all
}

// P12.1

func TestExample(t *testing.T) {
	a, b := edu("!r:s", "$a", 1), edu("!r:s", "$b", 1)
	p := of(1)
	checkPut(t, p, a)
	checkIs(t, p, 0, a)
	checkGoes(t, p, b, a)
	checkIs(t, p, 1, b)
}

func TestBoundsThatMayNotBe(t *testing.T) {
	for _, most := range numbers() {
		p, errno := park.New(most)
		if may := 1 <= most && most <= 1000; may != (errno == api.OK) || may != (p != nil) || !may && errno != api.ErrArg {
			t.Errorf("New(%d) is %v, %v", most, p, errno)
		}
	}
}

func TestNewIsWithoutEdus(t *testing.T) {
	for most := 1; most <= 1000; most++ {
		p := of(most)
		checkIs(t, p, 0)
		for _, s := range texts() {
			checkTake(t, p, s, s)
		}
		checkIs(t, p, 0)
	}
}

// TestEachBound: so many stay, and from the next one on each puts the first one out.
func TestEachBound(t *testing.T) {
	bounds := []int{120, 255, 256, 257, 511, 512, 513, 999, 1000}
	for most := 1; most <= 70; most++ {
		bounds = append(bounds, most)
	}
	for _, most := range bounds {
		p, edus := of(most), numbered(0, 2*most+3)
		for _, e := range edus[:most] {
			checkPut(t, p, e)
		}
		checkIs(t, p, 0, edus[:most]...)
		for i, e := range edus[most:] {
			checkGoes(t, p, e, edus[i])
		}
		checkIs(t, p, most+3, edus[most+3:]...)
	}
}

// TestPutAgain: of what is there, at whatever place, nothing is done, be the park full or not.
func TestPutAgain(t *testing.T) {
	edus := some()
	for _, most := range []int{len(edus), len(edus) + 1, 1000} {
		p := of(most, edus...)
		for range 2 {
			for _, e := range edus {
				checkPut(t, p, e)
				checkIs(t, p, 0, edus...)
			}
		}
	}
	p := of(1)
	for range 5 {
		checkPut(t, p, edus[0])
		checkIs(t, p, 0, edus[0])
	}
}

// TestPutAgainKeepsItsPlace: what comes again is not the last one by it.
func TestPutAgainKeepsItsPlace(t *testing.T) {
	a, b, c, d := edu("!r:s", "$a", 1), edu("!r:s", "$a", 2), edu("!r:s", "$a", 3), edu("!r:s", "$a", 4)
	p := of(3, a, b, c)
	checkPut(t, p, a)
	checkPut(t, p, b)
	checkGoes(t, p, d, a)
	checkIs(t, p, 1, b, c, d)
}

// TestWhatIsGoneMayComeBack, as the last one, whether it was taken or has gone because of the bound.
func TestWhatIsGoneMayComeBack(t *testing.T) {
	a, b, c := edu("!r:s", "$a", 1), edu("!r:s", "$b", 2), edu("!r:s", "$c", 3)
	p := of(2, a, b)
	checkGoes(t, p, c, a)
	checkGoes(t, p, a, b)
	checkIs(t, p, 2, c, a)
	checkTake(t, p, "!r:s", "$c", c)
	checkIs(t, p, 2, a)
	checkPut(t, p, c)
	checkIs(t, p, 2, a, c)
	checkGoes(t, p, b, a)
	checkIs(t, p, 3, c, b)
}

// TestEachTwo of EDUs that part in one field, or in two: they are one only where all fields are the same.
func TestEachTwo(t *testing.T) {
	all := near()
	for i, first := range all {
		for j, second := range all {
			narrow, wide := of(1, first), of(2, first)
			if i == j {
				checkPut(t, narrow, second)
				checkPut(t, wide, second)
				checkIs(t, narrow, 0, first)
				checkIs(t, wide, 0, first)
				continue
			}
			checkGoes(t, narrow, second, first)
			checkPut(t, wide, second)
			checkIs(t, narrow, 1, second)
			checkIs(t, wide, 0, first, second)
		}
	}
}

// TestEdusOfAnyForm are parked as they are: the chapter refuses none.
func TestEdusOfAnyForm(t *testing.T) {
	all, p := near(), of(1000)
	for _, e := range all {
		checkPut(t, p, e)
	}
	checkIs(t, p, 0, all...)
}

// TestZeroEdu is one as any other: that it goes is told by true.
func TestZeroEdu(t *testing.T) {
	p := of(1)
	checkPut(t, p, api.Edu{})
	checkPut(t, p, api.Edu{})
	checkIs(t, p, 0, api.Edu{})
	checkGoes(t, p, some()[0], api.Edu{})
	checkGoes(t, p, api.Edu{}, some()[0])
	checkIs(t, p, 2, api.Edu{})
	checkTake(t, p, "", "", api.Edu{})
	checkIs(t, p, 2)
}

// TestParksAreApart: what one of them is told another one does not have.
func TestParksAreApart(t *testing.T) {
	edus := some()
	a, b, c := of(len(edus), edus...), of(len(edus), edus...), of(1)
	b.Put(edu("!new:s", "$a", 1))
	b.Take("!r:s", "$a")
	c.Put(edus[1])
	checkIs(t, a, 0, edus...)
	checkIs(t, c, 0, edus[1])
	a.Take("!r:s", "$b")
	checkIs(t, c, 0, edus[1])
	checkIs(t, b, 1, append(slices.DeleteFunc(edus[1:], func(e api.Edu) bool { return e.Room == "!r:s" && e.Event == "$a" }), edu("!new:s", "$a", 1))...)
}

// P12.2

// TestTakeOfEach Room and Event, of each park of the first of some: those that have both go, in their row; the others stay in theirs.
func TestTakeOfEach(t *testing.T) {
	for n := range len(some()) + 1 {
		for _, room := range append(texts(), "!q:s") {
			for _, event := range append(texts(), "$b") {
				p, m := both(1000)
				for _, e := range some()[:n] {
					p.Put(e)
					m.put(e)
				}
				for range 2 {
					if fault := take(room, event).do(p, m); fault != "" {
						t.Fatalf("Take(%q, %q) of %d: %s", room, event, n, fault)
					}
				}
			}
		}
	}
}

func TestTakeTellsTheirRow(t *testing.T) {
	edus := some()
	p := of(100, edus...)
	checkTake(t, p, "!r:s", "$a", edus[0], edus[4], edus[5], edus[10])
	checkIs(t, p, 0, edus[1], edus[2], edus[3], edus[6], edus[7], edus[8], edus[9], edus[11])
	checkTake(t, p, "!r:s", "$a")
	checkTake(t, p, "!q:s", "$a", edus[3], edus[11])
	checkTake(t, p, "", "", edus[6], edus[8])
	checkTake(t, p, "!r:s", "", edus[2])
	checkIs(t, p, 0, edus[1], edus[7], edus[9])
	checkTake(t, p, "", "$a", edus[9])
	checkTake(t, p, "!q:s", "$b", edus[7])
	checkTake(t, p, "!r:s", "$b", edus[1])
	checkIs(t, p, 0)
}

// TestTakeAsksForRoomAndEvent: one of them alone is not enough, nor are both in each other's place; the other fields are not asked.
func TestTakeAsksForRoomAndEvent(t *testing.T) {
	for _, e := range near() {
		p := of(1, e)
		wrongs := [][2]string{{e.Room + ".", e.Event}, {e.Room, e.Event + "."}, {e.Room + ".", e.Event + "."}, {"." + e.Room, e.Event}, {e.Room + e.Event, "."}, {strings.ToUpper(e.Room) + "x", e.Event}}
		if e.Room != e.Event {
			wrongs = append(wrongs, [2]string{e.Event, e.Room})
		}
		if e.Room != e.User {
			wrongs = append(wrongs, [2]string{e.User, e.Event})
		}
		if e.Event != e.Thread {
			wrongs = append(wrongs, [2]string{e.Room, e.Thread})
		}
		for _, w := range wrongs {
			checkTake(t, p, w[0], w[1])
			checkIs(t, p, 0, e)
		}
		checkTake(t, p, e.Room, e.Event, e)
		checkIs(t, p, 0)
	}
}

// TestTakenAreNotLost, and make room.
func TestTakenAreNotLost(t *testing.T) {
	a, b, c, d := edu("!r:s", "$a", 1), edu("!r:s", "$b", 2), edu("!r:s", "$a", 3), edu("!r:s", "$d", 4)
	p := of(3, a, b, c)
	checkTake(t, p, "!r:s", "$a", a, c)
	checkIs(t, p, 0, b)
	checkPut(t, p, d)
	checkPut(t, p, a)
	checkIs(t, p, 0, b, d, a)
	checkGoes(t, p, c, b)
	checkIs(t, p, 1, d, a, c)
	checkTake(t, p, "!r:s", "$b")
	checkTake(t, p, "!r:s", "$d", d)
	checkIs(t, p, 1, a, c)
}

// TestLostCountsEachTime, and the same EDU as often as it goes.
func TestLostCountsEachTime(t *testing.T) {
	a, b := edu("!r:s", "$a", 1), edu("!r:s", "$b", 1)
	p := of(1, a)
	for n := range 2000 {
		if n%2 == 0 {
			checkGoes(t, p, b, a)
		} else {
			checkGoes(t, p, a, b)
		}
		if got := p.Lost(); got != n+1 {
			t.Fatalf("Lost is %d, want %d", got, n+1)
		}
	}
	checkIs(t, p, 2000, a)
}

// TestEachPlaceTaken: of a full park, the one at each place alone, and then another one comes.
func TestEachPlaceTaken(t *testing.T) {
	for most := 1; most <= 12; most++ {
		for place := range most {
			var edus []api.Edu
			for n := range most {
				edus = append(edus, edu("!r:s", fmt.Sprint("$", n), n))
			}
			p := of(most, edus...)
			checkTake(t, p, "!r:s", fmt.Sprint("$", place), edus[place])
			left := slices.Delete(slices.Clone(edus), place, place+1)
			checkIs(t, p, 0, left...)
			checkPut(t, p, edus[place])
			left = append(left, edus[place])
			checkIs(t, p, 0, left...)
			next := edu("!r:s", "$next", 99)
			checkGoes(t, p, next, left[0])
			checkIs(t, p, 1, append(left[1:], next)...)
		}
	}
}

// TestEachPartTaken: of six, those at any of their places.
func TestEachPartTaken(t *testing.T) {
	for chosen := range 1 << 6 {
		var edus, those, others []api.Edu
		for n := range 6 {
			if chosen>>n&1 == 1 {
				edus = append(edus, edu("!r:s", "$a", n))
				those = append(those, edus[n])
			} else {
				edus = append(edus, edu("!r:s", "$b", n))
				others = append(others, edus[n])
			}
		}
		p := of(6, edus...)
		checkTake(t, p, "!r:s", "$a", those...)
		checkIs(t, p, 0, others...)
		checkTake(t, p, "!r:s", "$b", others...)
		checkIs(t, p, 0)
	}
}

// P12.3

// eachStep tells all rows of n of the steps.
func eachStep(steps []step, n int, tell func(row []step)) {
	row := make([]step, n)
	var choose func(at int)
	choose = func(at int) {
		if at == n {
			tell(row)
			return
		}
		for _, s := range steps {
			row[at] = s
			choose(at + 1)
		}
	}
	choose(0)
}

func TestAllRowsOfSteps(t *testing.T) {
	steps := []step{
		put(edu("!r:s", "$a", 1)), put(edu("!r:s", "$a", 2)), put(edu("!r:s", "$b", 1)), put(edu("!q:s", "$a", 1)),
		take("!r:s", "$a"), take("!r:s", "$b"), take("!q:s", "$b"),
	}
	for most := 1; most <= 4; most++ {
		eachStep(steps, 6, func(row []step) { follow(t, most, row...) })
	}
}

// randomStep is one of chance: of few EDUs, so that many come again.
func randomStep(random *rand.Rand, events int) step {
	room, event := "!r:s", fmt.Sprint("$", random.Intn(events))
	if random.Intn(4) == 0 {
		room = "!q:s"
	}
	if random.Intn(8) == 0 {
		return take(room, event)
	}
	e := edu(room, event, random.Intn(4))
	e.Private = random.Intn(5) == 0
	return put(e)
}

// TestRowsOfChance, held against the model behind each step.
func TestRowsOfChance(t *testing.T) {
	random := rand.New(rand.NewSource(1))
	for range 400 {
		var steps []step
		events := 1 + random.Intn(9)
		for range 150 {
			steps = append(steps, randomStep(random, events))
		}
		follow(t, 1+random.Intn(20), steps...)
	}
}

// TestNoneIsMissing: each that was put, and was not there, is there, was taken, or has gone because of the bound, once.
func TestNoneIsMissing(t *testing.T) {
	random := rand.New(rand.NewSource(2))
	for range 200 {
		most := 1 + random.Intn(30)
		p := of(most)
		came, went := map[api.Edu]int{}, map[api.Edu]int{}
		lost := 0
		for range 300 {
			s := randomStep(random, 12)
			if s.takes {
				for _, e := range p.Take(s.e.Room, s.e.Event) {
					went[e]++
				}
			} else {
				if !slices.Contains(p.All(), s.e) {
					came[s.e]++
				}
				if gone, is := p.Put(s.e); is {
					went[gone]++
					lost++
				}
				if all := p.All(); !slices.Contains(all, s.e) {
					t.Fatalf("%+v was put, and is not there", s.e)
				}
			}
			if p.Len() > most {
				t.Fatalf("%d are there, and the bound is %d", p.Len(), most)
			}
		}
		for _, e := range p.All() {
			went[e]++
		}
		if p.Lost() != lost {
			t.Fatalf("Lost is %d, want %d", p.Lost(), lost)
		}
		if len(came) != len(went) {
			t.Fatalf("%d came, %d are there or went", len(came), len(went))
		}
		for e, n := range came {
			if went[e] != n {
				t.Fatalf("%+v came %d times, and is there or went %d times", e, n, went[e])
			}
		}
	}
}

// TestTheLastStay: of whatever comes, each other than the others, the last ones are there.
func TestTheLastStay(t *testing.T) {
	for _, most := range []int{1, 8, 1000} {
		p, edus := of(most), numbered(0, 20000)
		for i, e := range edus {
			if gone, is := p.Put(e); is != (i >= most) || is && gone != edus[i-most] {
				t.Fatalf("bound %d: %d: %+v, %v", most, i, gone, is)
			}
		}
		checkIs(t, p, len(edus)-most, edus[len(edus)-most:]...)
	}
}

// The rules of all layers

// TestAskingChangesNothing, and tells the same again.
func TestAskingChangesNothing(t *testing.T) {
	edus := some()
	p := of(len(edus)-2, edus...)
	for range 30 {
		checkIs(t, p, 2, edus[2:]...)
		checkTake(t, p, "!none:s", "$a")
	}
}

// spoil changes a list, and its spare room.
func spoil(l []api.Edu) {
	whole := l[:cap(l)]
	for i := range whole {
		whole[i] = edu("!changed:s", "$changed", 99)
	}
}

func TestAnswersMayBeChanged(t *testing.T) {
	edus := some()
	p := of(len(edus), edus...)
	spoil(p.All())
	checkIs(t, p, 0, edus...)
	spoil(p.Take("!r:s", "$a"))
	left := slices.DeleteFunc(slices.Clone(edus), func(e api.Edu) bool { return e.Room == "!r:s" && e.Event == "$a" })
	checkIs(t, p, 0, left...)
	spoil(p.Take("!none:s", "$a"))
	checkIs(t, p, 0, left...)
	checkPut(t, p, edus[0])
	checkIs(t, p, 0, append(left, edus[0])...)
	all := of(3, edus[0], edus[5])
	spoil(all.Take("!r:s", "$a"))
	checkIs(t, all, 0)
	checkPut(t, all, edus[1])
	checkIs(t, all, 0, edus[1])
}

// TestWhatWasToldStays: whatever comes behind it.
func TestWhatWasToldStays(t *testing.T) {
	edus := some()
	p := of(len(edus), edus...)
	all := p.All()
	taken := p.Take("!r:s", "$a")
	wantTaken := slices.Clone(taken)
	behind := p.All()
	wantBehind := slices.Clone(behind)
	for _, e := range numbered(100, 150) {
		p.Put(e)
	}
	p.Take("!r:s", "$1")
	p.Put(edus[0])
	if !slices.Equal(all, edus) || !slices.Equal(taken, wantTaken) || !slices.Equal(behind, wantBehind) {
		t.Errorf("%v, %v, %v", all, taken, behind)
	}
}

// TestNoOtherEduIsInSpareRoom of what was taken: neither one that stays nor one that has gone.
func TestNoOtherEduIsInSpareRoom(t *testing.T) {
	edus := some()
	p := of(len(edus)-1, edus...)
	taken := p.Take("!r:s", "$a")
	for _, e := range taken[len(taken):cap(taken)] {
		if e != (api.Edu{}) {
			t.Errorf("%+v", e)
		}
	}
	all := p.All()
	for _, e := range all[len(all):cap(all)] {
		if e != (api.Edu{}) {
			t.Errorf("%+v", e)
		}
	}
}

// renewed is an EDU whose texts are made by a function, one by one.
func renewed(e api.Edu, text func(string) string) api.Edu {
	e.Room, e.User, e.Event, e.Thread = text(e.Room), text(e.User), text(e.Event), text(e.Thread)
	return e
}

// TestTextsHandedInMayBecomeOthers, behind whatever call: of an EDU that comes, of one that is there, of what is taken.
func TestTextsHandedInMayBecomeOthers(t *testing.T) {
	var handed [][]byte
	own := func(s string) string {
		b := []byte(s + "\x00")
		handed = append(handed, b)
		return unsafe.String(&b[0], len(s))
	}
	edus := some()
	p := of(len(edus) - 1)
	for _, e := range edus {
		p.Put(renewed(e, own))
		p.Put(renewed(e, own))
	}
	checkTake(t, p, own("!none:s"), own("$a"))
	gone, _ := p.Put(renewed(edu("!new:s", "$a", 1), own))
	taken := p.Take(own("!r:s"), own("$a"))
	for _, b := range handed {
		for i := range b {
			b[i] = '?'
		}
	}
	if gone != edus[1] {
		t.Errorf("%+v is gone", gone)
	}
	if fault := parts(taken, []api.Edu{edus[4], edus[5], edus[10]}); fault != "" {
		t.Error(fault)
	}
	checkIs(t, p, 2, edus[2], edus[3], edus[6], edus[7], edus[8], edus[9], edus[11], edu("!new:s", "$a", 1))
}

// TestNoTextIsShared between two answers, or an answer and what was handed in.
func TestNoTextIsShared(t *testing.T) {
	texts := map[*byte]string{} // the addresses hold on to the texts, so that no memory is used again
	note := func(called string, edus ...api.Edu) {
		t.Helper()
		for _, e := range edus {
			for _, s := range []string{e.Room, e.User, e.Event, e.Thread} {
				if s == "" {
					continue
				}
				at := unsafe.StringData(s)
				if first, is := texts[at]; is {
					t.Fatalf("%s and %s share the text %q", called, first, s)
				}
				texts[at] = called
			}
		}
	}
	p := of(len(some()) - 2)
	for _, e := range some() {
		e = renewed(e, strings.Clone)
		note("what is handed in", e)
		gone, _ := p.Put(e)
		note("Put", gone)
	}
	for range 3 {
		note("All", p.All()...)
	}
	note("Take", p.Take("!r:s", "$a")...)
	note("Take of another one", p.Take("!q:s", "$a")...)
	note("All behind Take", p.All()...)
}
