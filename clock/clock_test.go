package clock_test

import (
	"math"
	"math/rand"
	"slices"
	"sync"
	"testing"

	"concourse/api"
	"concourse/clock"
)

// counter is a counter that may be.
func counter(t *testing.T, from, most int) *clock.Counter {
	t.Helper()
	c, errno := clock.New(from, most)
	if c == nil || errno != api.OK {
		t.Fatalf("New(%d, %d) is %v, %v", from, most, c, errno)
	}
	return c
}

// step is one call of a counter: Next, or Add of n.
type step struct {
	next bool
	n    int
}

func (s step) take(c *clock.Counter) (int, api.Errno) {
	if s.next {
		return c.Next()
	}
	return c.Add(s.n)
}

// model is a counter by the chapter's words, for one hand.
type model struct{ at, most int }

func (m *model) next() (int, api.Errno) {
	if m.at == m.most {
		return 0, api.ErrClock
	}
	m.at++
	return m.at, api.OK
}

func (m *model) add(n int) (int, api.Errno) {
	switch {
	case n < 0:
		return 0, api.ErrArg
	case n > 0 && m.at == m.most:
		return 0, api.ErrClock
	case n > m.most-m.at:
		m.at = m.most
	default:
		m.at += n
	}
	return m.at, api.OK
}

func (m *model) take(s step) (int, api.Errno) {
	if s.next {
		return m.next()
	}
	return m.add(s.n)
}

// follow takes the steps of a counter and of its model, and holds what each tells against the other.
func follow(t *testing.T, from, most int, steps []step) {
	t.Helper()
	c, m := counter(t, from, most), &model{from, most}
	for i, s := range steps {
		n, errno := s.take(c)
		want, wantErrno := m.take(s)
		if n != want || errno != wantErrno || c.At() != m.at || c.Most() != most {
			t.Fatalf("from %d to %d, %v, step %d: %d, %v, at %d of %d; want %d, %v, at %d", from, most, steps, i, n, errno, c.At(), c.Most(), want, wantErrno, m.at)
		}
	}
}

// edges are numbers about every limit.
func edges() []int {
	return []int{
		math.MinInt, math.MinInt + 1, -api.MaxNumber - 1, -api.MaxNumber, math.MinInt32, -2, -1, 0, 1, 2, 3, math.MaxInt32, math.MaxUint32, 1 << 32,
		api.MaxNumber/2 - 1, api.MaxNumber / 2, api.MaxNumber - 2, api.MaxNumber - 1, api.MaxNumber, api.MaxNumber + 1, api.MaxNumber + 2, 2 * api.MaxNumber,
		math.MaxInt - api.MaxNumber, math.MaxInt - api.MaxNumber + 1, math.MaxInt - 1, math.MaxInt,
	}
}

// hands lets so many hands do something at once, and ends when all are through.
func hands(n int, do func(hand int)) {
	var all sync.WaitGroup
	begin := make(chan struct{})
	for hand := range n {
		all.Go(func() {
			<-begin
			do(hand)
		})
	}
	close(begin)
	all.Wait()
}

// told is what a hand was told, and what it had asked for.
type told struct {
	step
	at    int
	errno api.Errno
}

// takeAtOnce lets each hand take its steps, all at once, and tells what each was told, in its row.
func takeAtOnce(c *clock.Counter, steps [][]step) [][]told {
	all := make([][]told, len(steps))
	hands(len(steps), func(hand int) {
		for _, s := range steps[hand] {
			n, errno := s.take(c)
			all[hand] = append(all[hand], told{s, n, errno})
		}
	})
	return all
}

// repeat is a row of the same step.
func repeat(s step, n int) []step { return slices.Repeat([]step{s}, n) }

// P5.1

func TestNew(t *testing.T) {
	for _, x := range []struct {
		from, most int
		errno      api.Errno
	}{
		{0, 1, api.OK}, {1, 1, api.OK}, {0, 2, api.OK}, {1, 2, api.OK}, {2, 2, api.OK}, {5, 7, api.OK}, {0, 100, api.OK},
		{0, 1 << 40, api.OK}, {1, 1 << 40, api.OK}, {1<<40 - 1, 1 << 40, api.OK}, {1 << 40, 1 << 40, api.OK}, {1<<40 - 1, 1<<40 - 1, api.OK},
		// most is not from 1 to 2^40
		{0, 0, api.ErrArg}, {0, -1, api.ErrArg}, {-1, -1, api.ErrArg}, {-5, -1, api.ErrArg}, {1, 0, api.ErrArg}, {0, math.MinInt, api.ErrArg},
		{0, 1<<40 + 1, api.ErrArg}, {1 << 40, 1<<40 + 1, api.ErrArg}, {1<<40 + 1, 1<<40 + 1, api.ErrArg}, {0, math.MaxInt, api.ErrArg},
		// from is not from 0 to most
		{-1, 1, api.ErrArg}, {-1, 1 << 40, api.ErrArg}, {math.MinInt, 5, api.ErrArg}, {2, 1, api.ErrArg}, {6, 5, api.ErrArg},
		{1<<40 + 1, 1 << 40, api.ErrArg}, {1 << 40, 1<<40 - 1, api.ErrArg}, {math.MaxInt, 5, api.ErrArg},
		{math.MaxInt, math.MaxInt, api.ErrArg}, {math.MinInt, math.MinInt, api.ErrArg},
	} {
		c, errno := clock.New(x.from, x.most)
		if errno != x.errno || (c != nil) != (x.errno == api.OK) {
			t.Errorf("New(%d, %d) is %v, %v; want %v", x.from, x.most, c, errno, x.errno)
		} else if c != nil && (c.At() != x.from || c.Most() != x.most) {
			t.Errorf("New(%d, %d) is at %d of %d", x.from, x.most, c.At(), c.Most())
		}
	}
}

func TestNewOfEveryPairOfEdges(t *testing.T) {
	for _, most := range edges() {
		for _, from := range edges() {
			for _, from := range []int{from, most, most - 1, most + 1} {
				may := 1 <= most && most <= 1<<40 && 0 <= from && from <= most
				c, errno := clock.New(from, most)
				switch {
				case !may && (c != nil || errno != api.ErrArg):
					t.Errorf("New(%d, %d) is %v, %v", from, most, c, errno)
				case may && (c == nil || errno != api.OK || c.At() != from || c.Most() != most):
					t.Errorf("New(%d, %d) is %v, %v", from, most, c, errno)
				}
			}
		}
	}
}

// TestAskedAgain: being asked changes nothing.
func TestAskedAgain(t *testing.T) {
	c := counter(t, 3, 9)
	for range 5 {
		if c.At() != 3 || c.Most() != 9 {
			t.Errorf("at %d of %d", c.At(), c.Most())
		}
	}
	if n, errno := c.Next(); n != 4 || errno != api.OK || c.At() != 4 || c.Most() != 9 {
		t.Errorf("%d, %v, at %d of %d", n, errno, c.At(), c.Most())
	}
}

func TestCountersAreApart(t *testing.T) {
	a, b, c := counter(t, 0, 5), counter(t, 0, 5), counter(t, 2, 9)
	a.Next()
	a.Add(2)
	c.Add(100)
	if a.At() != 3 || b.At() != 0 || c.At() != 9 || a.Most() != 5 || b.Most() != 5 || c.Most() != 9 {
		t.Errorf("at %d, %d, %d of %d, %d, %d", a.At(), b.At(), c.At(), a.Most(), b.Most(), c.Most())
	}
	clock.New(0, 0) // a refusal changes no other counter
	if n, errno := b.Next(); n != 1 || errno != api.OK || a.At() != 3 || c.At() != 9 {
		t.Errorf("%d, %v, at %d, %d", n, errno, a.At(), c.At())
	}
}

// P5.2

func TestExample(t *testing.T) {
	c := counter(t, 0, 2)
	for i, want := range []told{{at: 1}, {at: 2}, {errno: api.ErrClock}, {errno: api.ErrClock}} {
		if n, errno := c.Next(); n != want.at || errno != want.errno || c.At() != min(i+1, 2) {
			t.Errorf("Next %d: %d, %v, at %d", i, n, errno, c.At())
		}
	}
}

// TestNextFromAndToEveryNumber: from each number each one up to the end comes once, in its row, and then refusals alone.
func TestNextFromAndToEveryNumber(t *testing.T) {
	for most := 1; most <= 40; most++ {
		for from := range most + 1 {
			c := counter(t, from, most)
			for want := from + 1; want <= most; want++ {
				if n, errno := c.Next(); n != want || errno != api.OK || c.At() != want {
					t.Fatalf("from %d to %d: %d, %v, at %d; want %d", from, most, n, errno, c.At(), want)
				}
			}
			for range 3 {
				if n, errno := c.Next(); n != 0 || errno != api.ErrClock || c.At() != most {
					t.Fatalf("from %d to %d, at its end: %d, %v, at %d", from, most, n, errno, c.At())
				}
			}
		}
	}
}

func TestAdd(t *testing.T) {
	const end = api.MaxNumber
	for _, x := range []struct {
		from, most, n int
		want          int
		errno         api.Errno
		at            int
	}{
		{3, 10, 2, 5, api.OK, 5}, {0, 10, 1, 1, api.OK, 1}, {0, 10, 0, 0, api.OK, 0}, {3, 10, 0, 3, api.OK, 3}, {0, end, 1 << 39, 1 << 39, api.OK, 1 << 39},
		// one short of the end, just to it, past it
		{3, 10, 6, 9, api.OK, 9}, {3, 10, 7, 10, api.OK, 10}, {3, 10, 8, 10, api.OK, 10}, {3, 10, 100, 10, api.OK, 10},
		{0, 1, 1, 1, api.OK, 1}, {0, 1, 2, 1, api.OK, 1}, {9, 10, 1, 10, api.OK, 10}, {9, 10, 2, 10, api.OK, 10},
		{0, end, end - 1, end - 1, api.OK, end - 1}, {0, end, end, end, api.OK, end}, {0, end, end + 1, end, api.OK, end},
		{end - 1, end, 1, end, api.OK, end}, {end - 1, end, 2, end, api.OK, end}, {end / 2, end, end/2 - 1, end - 1, api.OK, end - 1},
		// far past it, so that the sum of both is no int, or just one
		{0, 10, math.MaxInt, 10, api.OK, 10}, {1, 10, math.MaxInt, 10, api.OK, 10}, {9, 10, math.MaxInt, 10, api.OK, 10}, {9, 10, math.MaxInt - 9, 10, api.OK, 10},
		{0, end, math.MaxInt, end, api.OK, end}, {end - 1, end, math.MaxInt, end, api.OK, end}, {end - 1, end, math.MaxInt - end + 1, end, api.OK, end},
		{end - 1, end, math.MaxInt - end + 2, end, api.OK, end},
		// at the end
		{10, 10, 0, 10, api.OK, 10}, {1, 1, 0, 1, api.OK, 1}, {end, end, 0, end, api.OK, end},
		{10, 10, 1, 0, api.ErrClock, 10}, {10, 10, 5, 0, api.ErrClock, 10}, {10, 10, math.MaxInt, 0, api.ErrClock, 10}, {1, 1, 1, 0, api.ErrClock, 1},
		{end, end, 1, 0, api.ErrClock, end}, {end, end, end, 0, api.ErrClock, end}, {end, end, math.MaxInt, 0, api.ErrClock, end},
		// below 0, which is told first
		{3, 10, -1, 0, api.ErrArg, 3}, {0, 10, -1, 0, api.ErrArg, 0}, {3, 10, -3, 0, api.ErrArg, 3}, {3, 10, math.MinInt, 0, api.ErrArg, 3},
		{10, 10, -1, 0, api.ErrArg, 10}, {10, 10, -10, 0, api.ErrArg, 10}, {10, 10, math.MinInt, 0, api.ErrArg, 10}, {end, end, -end, 0, api.ErrArg, end},
	} {
		c := counter(t, x.from, x.most)
		if n, errno := c.Add(x.n); n != x.want || errno != x.errno || c.At() != x.at || c.Most() != x.most {
			t.Errorf("from %d to %d, Add(%d): %d, %v, at %d of %d; want %d, %v, at %d", x.from, x.most, x.n, n, errno, c.At(), c.Most(), x.want, x.errno, x.at)
		}
	}
}

func TestNextAtTheGreatestNumber(t *testing.T) {
	c := counter(t, api.MaxNumber-1, api.MaxNumber)
	if n, errno := c.Next(); n != 1<<40 || errno != api.OK {
		t.Errorf("%d, %v", n, errno)
	}
	if n, errno := c.Next(); n != 0 || errno != api.ErrClock || c.At() != 1<<40 {
		t.Errorf("%d, %v, at %d", n, errno, c.At())
	}
}

// TestRefusalChangesNothing: what comes behind refusals is as if they had not been.
func TestRefusalChangesNothing(t *testing.T) {
	follow(t, 3, 6, []step{{n: -1}, {n: math.MinInt}, {next: true}, {n: -2}, {n: 1}, {n: -1}, {next: true}, {next: true}, {n: 1}, {n: -1}, {n: math.MaxInt}, {n: 0}, {next: true}, {n: 0}})
	c := counter(t, 0, 1)
	c.Next()
	for range 1000 {
		c.Next()
		c.Add(math.MaxInt)
		c.Add(math.MinInt)
	}
	if n, errno := c.Add(0); n != 1 || errno != api.OK || c.At() != 1 || c.Most() != 1 {
		t.Errorf("%d, %v, at %d of %d", n, errno, c.At(), c.Most())
	}
}

// TestEveryRowOfSteps: small counters, each row of up to four steps.
func TestEveryRowOfSteps(t *testing.T) {
	steps := []step{{next: true}, {n: 0}, {n: 1}, {n: 2}, {n: 3}, {n: -1}, {n: math.MaxInt}, {n: math.MinInt}}
	for most := 1; most <= 4; most++ {
		for from := range most + 1 {
			for row := range 8 * 8 * 8 * 8 {
				follow(t, from, most, []step{steps[row%8], steps[row/8%8], steps[row/64%8], steps[row/512]})
			}
		}
	}
}

func TestEveryEdgeOfCounters(t *testing.T) {
	for _, most := range edges() {
		for _, from := range edges() {
			if most < 1 || most > api.MaxNumber || from < 0 || from > most {
				continue
			}
			for _, n := range append(edges(), most-from-1, most-from, most-from+1, from, -from, most, -most) {
				follow(t, from, most, []step{{n: n}, {next: true}, {n: n}, {n: 0}})
				follow(t, from, most, []step{{next: true}, {n: n}, {next: true}, {n: n}})
			}
		}
	}
}

func TestLongRowsOfSteps(t *testing.T) {
	chance := rand.New(rand.NewSource(5))
	for range 500 {
		most := 1 + chance.Intn(1<<chance.Intn(41))
		var steps []step
		for range 60 {
			steps = append(steps, step{next: chance.Intn(3) == 0, n: chance.Intn(most/10+2) - 1})
		}
		follow(t, chance.Intn(most+1), most, steps)
	}
}

// P5.3

func TestBackoff(t *testing.T) {
	for tries, want := range map[int]int{
		0: 1, 1: 2, 2: 4, 3: 8, 4: 16, 5: 16, 6: 16, 9: 16, 16: 16, 62: 16, 63: 16, 64: 16, 65: 16, 128: 16, 1 << 20: 16, 1 << 32: 16, 1 << 40: 16, math.MaxInt - 1: 16, math.MaxInt: 16,
		-1: 1, -2: 1, -4: 1, -64: 1, math.MinInt32: 1, math.MinInt + 1: 1, math.MinInt: 1,
	} {
		if got := clock.Backoff(tries); got != want {
			t.Errorf("Backoff(%d) is %d, want %d", tries, got, want)
		}
	}
	for tries := 1; tries <= 5000; tries++ {
		if got, want := clock.Backoff(tries), min(2*clock.Backoff(tries-1), api.MaxBackoff); got != want {
			t.Errorf("Backoff(%d) is %d, want %d", tries, got, want)
		}
		if got := clock.Backoff(-tries); got != 1 {
			t.Errorf("Backoff(%d) is %d", -tries, got)
		}
	}
}

func TestSum(t *testing.T) {
	for tries, want := range map[int]int{
		0: 0, 1: 1, 2: 3, 3: 7, 4: 15, 5: 31, 6: 47, 7: 63, 9: 95, 10: 111, 20: 271, 100: 1551,
		1<<20 - 1: 16777151, 1 << 20: 16777167,
		-1: 0, -2: 0, -5: 0, -1 << 20: 0, math.MinInt + 1: 0, math.MinInt: 0,
	} {
		if got := clock.Sum(tries); got != want {
			t.Errorf("Sum(%d) is %d, want %d", tries, got, want)
		}
	}
}

// TestSumIsOfEachBackoff: of all numbers that are promised.
func TestSumIsOfEachBackoff(t *testing.T) {
	want := 0
	for tries := range 1<<20 + 1 {
		if got := clock.Sum(tries); got != want {
			t.Fatalf("Sum(%d) is %d, want %d", tries, got, want)
		}
		want += clock.Backoff(tries)
	}
}

// P5.4

// TestNextTellsNoNumberTwice: whatever is added between, what Next tells rises, and so does the counter.
func TestNextTellsNoNumberTwice(t *testing.T) {
	chance := rand.New(rand.NewSource(54))
	for range 300 {
		most := 1 + chance.Intn(200)
		c := counter(t, chance.Intn(most+1), most)
		last, at := c.At(), c.At()
		for range 100 {
			if n, errno := c.Next(); errno == api.OK {
				if n <= last {
					t.Fatalf("Next tells %d behind %d", n, last)
				}
				last = n
			}
			for _, n := range []int{chance.Intn(5) - 2, -1, 0} {
				c.Add(n)
				if c.At() < at || c.At() > most {
					t.Fatalf("at %d, then at %d of %d", at, c.At(), most)
				}
				at = c.At()
			}
		}
	}
}

// TestManyHandsAskForTheNext: each number is told once, all others are refused, and what each hand is told rises.
func TestManyHandsAskForTheNext(t *testing.T) {
	for _, x := range []struct{ from, most, hands, asks int }{
		{0, 20000, 8, 4000}, {7, 20000, 8, 4000}, {0, 40000, 8, 4000}, {0, 32000, 8, 4000}, {0, 1, 16, 10}, {0, 1000, 64, 100},
		{api.MaxNumber - 10000, api.MaxNumber, 8, 3000}, {5, 5, 8, 100},
	} {
		c := counter(t, x.from, x.most)
		var all []int
		refused := 0
		for _, row := range takeAtOnce(c, slices.Repeat([][]step{repeat(step{next: true}, x.asks)}, x.hands)) {
			last, ended := x.from, false
			for _, one := range row {
				switch {
				case one.errno == api.OK && one.at > last && !ended:
					all, last = append(all, one.at), one.at
				case one.errno == api.ErrClock && one.at == 0:
					refused, ended = refused+1, true
				default:
					t.Fatalf("%v: %d, %v behind %d, refused already: %v", x, one.at, one.errno, last, ended)
				}
			}
		}
		slices.Sort(all)
		want := min(x.most-x.from, x.hands*x.asks)
		if len(all) != want || refused != x.hands*x.asks-want || c.At() != x.from+want {
			t.Fatalf("%v: %d are told, %d refused, at %d", x, len(all), refused, c.At())
		}
		for i, n := range all {
			if n != x.from+1+i {
				t.Fatalf("%v: %d is told where %d is to be", x, n, x.from+1+i)
			}
		}
	}
}

// mixed is a row of steps for each hand, of which each has others.
func mixed(hands, each int) [][]step {
	all := make([][]step, hands)
	for hand := range hands {
		for i := range each {
			s := step{next: i%2 == 0, n: (i*7 + hand) % 5}
			if i%11 == 0 {
				s = step{n: -1 - i}
			}
			all[hand] = append(all[hand], s)
		}
	}
	return all
}

// raised are all calls by which the counter rose, by what they were told, rising.
func raised(all [][]told) []told {
	var up []told
	for _, row := range all {
		for _, one := range row {
			if one.next {
				one.n = 1
			}
			if one.errno == api.OK && one.n > 0 {
				up = append(up, one)
			}
		}
	}
	slices.SortFunc(up, func(a, b told) int { return a.at - b.at })
	return up
}

// TestManyHandsAddAndAskForTheNext: there is a row in which all came one behind the other: each call that raised the counter did so from where another one had left it.
func TestManyHandsAddAndAskForTheNext(t *testing.T) {
	for _, most := range []int{api.MaxNumber, 20000, 20001, 777, 3, 1} {
		c := counter(t, 0, most)
		all := takeAtOnce(c, mixed(8, 4000))
		at := 0
		for _, one := range raised(all) {
			at = min(at+one.n, most)
			if one.at != at {
				t.Fatalf("to %d: %v told %d where %d is to be", most, one.step, one.at, at)
			}
		}
		if c.At() != at {
			t.Fatalf("to %d: at %d, raised to %d", most, c.At(), at)
		}
	}
}

// TestManyHandsAreToldOfTheEndOnce: what each hand is told hangs together, and behind the end all is refused.
func TestManyHandsAreToldOfTheEndOnce(t *testing.T) {
	for range 300 {
		const most = 50
		c := counter(t, 0, most)
		all := takeAtOnce(c, mixed(8, 40))
		for hand, row := range all {
			last := 0
			for _, one := range row {
				wrong := !one.next && one.n < 0
				adds := one.next || one.n > 0
				switch {
				case wrong && one.errno == api.ErrArg && one.at == 0:
				case !wrong && one.errno == api.OK && one.at >= last && (!adds || one.at > last):
					last = one.at
				case !wrong && adds && one.errno == api.ErrClock && one.at == 0:
					last = most // from here on there is nothing more
				default:
					t.Fatalf("hand %d: %v told %d, %v behind %d", hand, one.step, one.at, one.errno, last)
				}
			}
		}
		up := raised(all)
		if c.At() != most || up[len(up)-1].at != most || up[len(up)-2].at == most {
			t.Fatalf("at %d; the last ones: %v", c.At(), up[len(up)-2:])
		}
	}
}

// TestManyHandsAddTheGreatestInt: one of all comes to the end, and all others are refused.
func TestManyHandsAddTheGreatestInt(t *testing.T) {
	for range 300 {
		c := counter(t, 3, api.MaxNumber)
		all := takeAtOnce(c, slices.Repeat([][]step{repeat(step{n: math.MaxInt}, 5)}, 16))
		if up := raised(all); len(up) != 1 || up[0].at != api.MaxNumber || c.At() != api.MaxNumber {
			t.Fatalf("%v, at %d", up, c.At())
		}
	}
}

// TestNoHandSeesItFall: who watches a counter while others raise it sees it rise; who raises it sees it nowhere below what was told.
func TestNoHandSeesItFall(t *testing.T) {
	const most, each = 40000, 15000 // the end is come to as well
	c := counter(t, 0, most)
	var fell [8]int
	hands(8, func(hand int) {
		last := 0
		for i := range each {
			n := c.At()
			if hand%2 == 0 && n < most {
				n, _ = step{next: i%3 > 0, n: i % 2}.take(c)
				if n == 0 && c.At() == most { // refused: another hand was there first
					n = most
				}
			}
			if n < last || c.At() < n || c.At() > most || c.Most() != most {
				fell[hand]++
			}
			last = n
		}
	})
	if fell != [8]int{} {
		t.Errorf("seen to fall, by each hand: %v", fell)
	}
}

// TestHandsOfDifferentCounters: what many hands do with one is not seen in another.
func TestHandsOfDifferentCounters(t *testing.T) {
	var all [8]*clock.Counter
	for i := range all {
		all[i] = counter(t, i, 100000)
	}
	hands(8, func(hand int) {
		for range 3000 {
			all[hand].Next()
			all[hand].Add(hand)
		}
	})
	for i, c := range all {
		if want := i + 3000*(i+1); c.At() != want {
			t.Errorf("%d: at %d, want %d", i, c.At(), want)
		}
	}
}
