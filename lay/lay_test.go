package lay_test

import (
	"bytes"
	"encoding/binary"
	"math"
	"math/rand"
	"strings"
	"testing"

	"concourse/api"
	"concourse/lay"
)

// numbers are those about every place at which a number takes one more bit or byte, and about the limits.
func numbers() []int {
	all := []int{0, 2, 126, 127, 128, 129, 255, 256, 300, api.MaxNumber - 1, api.MaxNumber, api.MaxNumber + 1, math.MaxInt64 - 1, math.MaxInt64}
	for bit := range 63 {
		all = append(all, 1<<bit-1, 1<<bit, 1<<bit+1)
	}
	return all
}

// numberBytes is a number's bytes, told by the library, which has the same ones.
func numberBytes(n int) string {
	return string(binary.AppendUvarint(nil, uint64(max(n, 0))))
}

func textBytes(s string) string { return numberBytes(len(s)) + s }

func texts() []string {
	return []string{"", "a", "ab", "@ann:a.b", "\x00", "\xff\x80", "é", strings.Repeat("x", 127), strings.Repeat("y", 128), strings.Repeat("z", 20000)}
}

// goOn is so many bytes that all say that the number goes on.
func goOn(n int) string { return strings.Repeat("\x80", n) }

// model reads by the chapter's words: it finds where a number ends, and lays the number once more to see whether its bytes are those.
type model struct {
	rest  string
	errno api.Errno
}

func (m *model) fail(errno api.Errno) int {
	m.errno = errno
	return 0
}

func (m *model) number() int {
	if m.errno != api.OK {
		return 0
	}
	going := 0
	for going < len(m.rest) && m.rest[going] >= 128 {
		going++
	}
	if going >= 9 {
		return m.fail(api.ErrForm)
	}
	if going == len(m.rest) {
		return m.fail(api.ErrShort)
	}
	laid := m.rest[:going+1]
	n, _ := binary.Uvarint([]byte(laid))
	if numberBytes(int(n)) != laid {
		return m.fail(api.ErrForm)
	}
	m.rest = m.rest[len(laid):]
	return int(n)
}

func (m *model) text(most int) string {
	n := m.number()
	switch {
	case m.errno != api.OK:
	case most < 0 || n > most:
		m.fail(api.ErrForm)
	case n > len(m.rest):
		m.fail(api.ErrShort)
	default:
		s := m.rest[:n]
		m.rest = m.rest[n:]
		return s
	}
	return ""
}

func (m *model) flag() bool {
	switch {
	case m.errno != api.OK:
	case m.rest == "":
		m.fail(api.ErrShort)
	case m.rest[0] > 1:
		m.fail(api.ErrForm)
	default:
		is := m.rest[0] == 1
		m.rest = m.rest[1:]
		return is
	}
	return false
}

func (m *model) left() int {
	if m.errno != api.OK {
		return 0
	}
	return len(m.rest)
}

func (m *model) end() api.Errno {
	if m.errno == api.OK && m.rest != "" {
		return api.ErrForm
	}
	return m.errno
}

// call is one call of a reader: a number, a text of at most so many bytes, or a flag.
type call struct {
	what byte
	most int
}

// follow makes the calls of a reader and of its model, and holds what each tells against the other.
func follow(t *testing.T, b string, calls []call) {
	t.Helper()
	r, m := lay.Read([]byte(b)), &model{rest: b}
	for i, c := range calls {
		same := true
		switch c.what {
		case 'n':
			same = r.Number() == m.number()
		case 't':
			same = r.Text(c.most) == m.text(c.most)
		case 'f':
			same = r.Flag() == m.flag()
		}
		if !same || r.Left() != m.left() || r.End() != m.end() || r.Errno() != m.errno {
			t.Fatalf("%q, %v, call %d: left %d, end %v, errno %v; want left %d, end %v, errno %v (told the same: %v)",
				b, calls, i, r.Left(), r.End(), r.Errno(), m.left(), m.end(), m.errno, same)
		}
	}
}

// eachBytes tells every row of these bytes that is at most so long.
func eachBytes(alphabet string, most int, tell func(b string)) {
	var grow func(b string)
	grow = func(b string) {
		tell(b)
		if len(b) == most {
			return
		}
		for i := range len(alphabet) {
			grow(b + alphabet[i:i+1])
		}
	}
	grow("")
}

// P2.1

func TestNumberIsLaid(t *testing.T) {
	for n, want := range map[int]string{
		0: "\x00", 1: "\x01", 127: "\x7f", 128: "\x80\x01", 129: "\x81\x01", 255: "\xff\x01", 256: "\x80\x02", 300: "\xac\x02",
		16383: "\xff\x7f", 16384: "\x80\x80\x01", api.MaxNumber: goOn(5) + "\x20", math.MaxInt64: strings.Repeat("\xff", 8) + "\x7f",
		1 << 56: goOn(8) + "\x01", 1<<56 - 1: strings.Repeat("\xff", 7) + "\x7f",
		-1: "\x00", -128: "\x00", -300: "\x00", math.MinInt64: "\x00",
	} {
		if got := lay.Number(nil, n); string(got) != want {
			t.Errorf("Number(nil, %d) is %q, want %q", n, got, want)
		}
	}
	for _, n := range numbers() {
		for _, n := range []int{n, -n} {
			if got := lay.Number([]byte("ab"), n); string(got) != "ab"+numberBytes(n) {
				t.Errorf("Number(ab, %d) is %q", n, got)
			}
		}
	}
}

func TestTextIsLaid(t *testing.T) {
	for s, want := range map[string]string{"": "\x00", "a": "\x01a", "a.b": "\x03a.b", "\x00\xff": "\x02\x00\xff", "é": "\x02\xc3\xa9"} {
		if got := lay.Text(nil, s); string(got) != want {
			t.Errorf("Text(nil, %q) is %q, want %q", s, got, want)
		}
	}
	for _, s := range texts() {
		if got := lay.Text([]byte("ab"), s); string(got) != "ab"+textBytes(s) {
			t.Errorf("Text(ab, %q) is %q", s, got)
		}
	}
}

func TestFlagIsLaid(t *testing.T) {
	for is, want := range map[bool]string{true: "\x01", false: "\x00"} {
		if got := lay.Flag(nil, is); string(got) != want {
			t.Errorf("Flag(nil, %v) is %q", is, got)
		}
		if got := lay.Flag([]byte("ab"), is); string(got) != "ab"+want {
			t.Errorf("Flag(ab, %v) is %q", is, got)
		}
	}
}

func TestNilAndEmptyAreOne(t *testing.T) {
	for i, b := range [][]byte{nil, {}, make([]byte, 0, 8)} {
		if got := lay.Flag(lay.Text(lay.Number(b, 300), "ab"), true); string(got) != "\xac\x02\x02ab\x01" {
			t.Errorf("%d: %q", i, got)
		}
		r := lay.Read(b)
		if r.Left() != 0 || r.End() != api.OK || r.Errno() != api.OK {
			t.Errorf("%d: left %d, end %v, errno %v", i, r.Left(), r.End(), r.Errno())
		}
	}
}

// TestLaidIsNewMemory: neither the bytes that are handed in nor the spare room behind them are touched, and nothing is shared.
func TestLaidIsNewMemory(t *testing.T) {
	for i, put := range []func(b []byte) []byte{
		func(b []byte) []byte { return lay.Number(b, 5) },
		func(b []byte) []byte { return lay.Number(b, 300) },
		func(b []byte) []byte { return lay.Number(b, math.MaxInt64) },
		func(b []byte) []byte { return lay.Text(b, "") },
		func(b []byte) []byte { return lay.Text(b, "xyz") },
		func(b []byte) []byte { return lay.Flag(b, true) },
		func(b []byte) []byte { return lay.Flag(b, false) },
	} {
		for at := range 4 {
			whole := []byte("................")
			got := put(whole[:at])
			if string(whole) != "................" {
				t.Errorf("%d: spare room is touched: %q", i, whole)
			}
			kept := string(got)
			whole[0] = 'x'
			if string(got) != kept {
				t.Errorf("%d: what is laid is shared: %q", i, got)
			}
			for j := range got {
				got[j] = '#'
			}
			if string(whole) != "x..............." {
				t.Errorf("%d: what is laid is shared: %q", i, whole)
			}
		}
	}
}

// TestTwoBehindOne: what is put behind the same bytes twice does not overwrite itself.
func TestTwoBehindOne(t *testing.T) {
	first := lay.Number(nil, 7)
	one, two, three := lay.Text(first, "one"), lay.Number(first, 300), lay.Flag(first, true)
	if string(first) != "\x07" || string(one) != "\x07\x03one" || string(two) != "\x07\xac\x02" || string(three) != "\x07\x01" {
		t.Errorf("%q %q %q %q", first, one, two, three)
	}
}

// P2.2

func TestNumberIsRead(t *testing.T) {
	for b, want := range map[string]struct {
		n     int
		left  int
		errno api.Errno
	}{
		"\x00": {0, 0, api.OK}, "\x01": {1, 0, api.OK}, "\x7f": {127, 0, api.OK}, "\x80\x01": {128, 0, api.OK}, "\xac\x02": {300, 0, api.OK},
		"\x00\x00": {0, 1, api.OK}, "\x01\x80": {1, 1, api.OK}, "\xac\x02xyz": {300, 3, api.OK},
		strings.Repeat("\xff", 8) + "\x7f":     {math.MaxInt64, 0, api.OK},
		strings.Repeat("\xff", 8) + "\x7f\x01": {math.MaxInt64, 1, api.OK},
		goOn(8) + "\x01":                       {1 << 56, 0, api.OK},
		// cut off
		"": {0, 0, api.ErrShort}, "\x80": {0, 0, api.ErrShort}, "\xff\xff": {0, 0, api.ErrShort}, goOn(8): {0, 0, api.ErrShort},
		// more bytes than are needed
		"\x80\x00": {0, 0, api.ErrForm}, "\xff\x00": {0, 0, api.ErrForm}, "\xac\x82\x00": {0, 0, api.ErrForm}, goOn(8) + "\x00": {0, 0, api.ErrForm},
		"\x80\x00\x01": {0, 0, api.ErrForm},
		// nine that all go on
		goOn(9): {0, 0, api.ErrForm}, goOn(9) + "\x00": {0, 0, api.ErrForm}, goOn(9) + "\x01": {0, 0, api.ErrForm},
		goOn(10): {0, 0, api.ErrForm}, strings.Repeat("\xff", 30): {0, 0, api.ErrForm},
	} {
		r := lay.Read([]byte(b))
		if n := r.Number(); n != want.n || r.Errno() != want.errno || r.Left() != want.left {
			t.Errorf("%q: number %d, errno %v, left %d; want %v", b, n, r.Errno(), r.Left(), want)
		}
	}
}

func TestTextIsRead(t *testing.T) {
	long := strings.Repeat("x", 128)
	for _, x := range []struct {
		b     string
		most  int
		s     string
		left  int
		errno api.Errno
	}{
		{"\x00", 0, "", 0, api.OK}, {"\x00", 5, "", 0, api.OK}, {"\x00a", 5, "", 1, api.OK},
		{"\x02ab", 2, "ab", 0, api.OK}, {"\x02ab", 3, "ab", 0, api.OK}, {"\x02ab", math.MaxInt64, "ab", 0, api.OK}, {"\x02abc", 2, "ab", 1, api.OK},
		{"\x02\x00\xff", 2, "\x00\xff", 0, api.OK}, {"\x80\x01" + long, 128, long, 0, api.OK},
		// above most
		{"\x02ab", 1, "", 0, api.ErrForm}, {"\x01a", 0, "", 0, api.ErrForm}, {"\x80\x01" + long, 127, "", 0, api.ErrForm},
		{"\x00", -1, "", 0, api.ErrForm}, {"\x01a", -1, "", 0, api.ErrForm}, {"\x00", math.MinInt64, "", 0, api.ErrForm},
		// cut off
		{"\x01", 1, "", 0, api.ErrShort}, {"\x03ab", 3, "", 0, api.ErrShort}, {"\x80\x01" + long[1:], 128, "", 0, api.ErrShort},
		{strings.Repeat("\xff", 8) + "\x7fab", math.MaxInt64, "", 0, api.ErrShort},
		// both: above most is told first
		{"\x03ab", 2, "", 0, api.ErrForm}, {"\x01", -1, "", 0, api.ErrForm},
		// the length is no number: its error is told ahead of all
		{"", 5, "", 0, api.ErrShort}, {"", -1, "", 0, api.ErrShort}, {"\x80", 0, "", 0, api.ErrShort}, {"\x80", -1, "", 0, api.ErrShort},
		{"\x80\x00", 5, "", 0, api.ErrForm}, {goOn(9), 5, "", 0, api.ErrForm}, {goOn(8), -1, "", 0, api.ErrShort},
	} {
		r := lay.Read([]byte(x.b))
		if s := r.Text(x.most); s != x.s || r.Errno() != x.errno || r.Left() != x.left {
			t.Errorf("%q of at most %d: text %q, errno %v, left %d; want %q, %v, %d", x.b, x.most, s, r.Errno(), r.Left(), x.s, x.errno, x.left)
		}
	}
}

func TestFlagIsRead(t *testing.T) {
	for c := range 256 {
		r := lay.Read([]byte{byte(c), 1})
		is, errno, left := c == 1, api.OK, 1
		if c > 1 {
			errno, left = api.ErrForm, 0
		}
		if got := r.Flag(); got != is || r.Errno() != errno || r.Left() != left {
			t.Errorf("%d: flag %v, errno %v, left %d", c, got, r.Errno(), r.Left())
		}
	}
	r := lay.Read(nil)
	if r.Flag() || r.Errno() != api.ErrShort {
		t.Errorf("of no bytes: errno %v", r.Errno())
	}
}

// TestReadersAreApart: a reader neither keeps nor changes what it was given, and two of the same bytes do not meet.
func TestReadersAreApart(t *testing.T) {
	b := []byte("\x02ab\x01\x07")
	one, two := lay.Read(b), lay.Read(b)
	if s := one.Text(2); s != "ab" || two.Left() != 5 {
		t.Errorf("%q, left %d", s, two.Left())
	}
	s := two.Text(2)
	for i := range b {
		b[i] = '#'
	}
	if s != "ab" || !one.Flag() || one.Number() != 7 || one.End() != api.OK || !two.Flag() || two.Left() != 1 {
		t.Errorf("%q, ends %v, left %d", s, one.End(), two.Left())
	}
	b = []byte("\x02ab")
	lay.Read(b).Text(2)
	lay.Read(b).Text(1)
	lay.Read(b).Number()
	if !bytes.Equal(b, []byte("\x02ab")) {
		t.Errorf("changed: %q", b)
	}
}

// P2.3

func TestFirstErrorStays(t *testing.T) {
	for _, x := range []struct {
		b     string
		c     call
		errno api.Errno
	}{
		{"\x80", call{'n', 0}, api.ErrShort}, {"\x80\x00\x01\x01", call{'n', 0}, api.ErrForm}, {goOn(9) + "\x01", call{'n', 0}, api.ErrForm},
		{"\x05ab", call{'t', 5}, api.ErrShort}, {"\x02ab\x01", call{'t', 1}, api.ErrForm}, {"", call{'f', 0}, api.ErrShort}, {"\x02\x01", call{'f', 0}, api.ErrForm},
	} {
		r := lay.Read([]byte(x.b))
		switch x.c.what {
		case 'n':
			r.Number()
		case 't':
			r.Text(x.c.most)
		case 'f':
			r.Flag()
		}
		for range 2 {
			told := r.Number() == 0 && r.Text(100) == "" && r.Text(-1) == "" && !r.Flag()
			if !told || r.Left() != 0 || r.Errno() != x.errno || r.End() != x.errno {
				t.Errorf("%q behind %c: told %v, left %d, errno %v, end %v; want errno %v", x.b, x.c.what, told, r.Left(), r.Errno(), r.End(), x.errno)
			}
		}
	}
}

func TestEndAndLeft(t *testing.T) {
	r := lay.Read([]byte("\xac\x02\x02ab\x01"))
	for i, x := range []struct {
		read func() bool
		left int
		end  api.Errno
	}{
		{func() bool { return true }, 6, api.ErrForm},
		{func() bool { return r.Number() == 300 }, 4, api.ErrForm},
		{func() bool { return r.Text(2) == "ab" }, 1, api.ErrForm},
		{func() bool { return r.Flag() }, 0, api.OK},
	} {
		// End is asked twice: it tells an error, and makes none.
		if !x.read() || r.Left() != x.left || r.End() != x.end || r.End() != x.end || r.Errno() != api.OK {
			t.Errorf("%d: left %d, end %v, errno %v", i, r.Left(), r.End(), r.Errno())
		}
	}
	if r.Number() != 0 || r.Errno() != api.ErrShort || r.End() != api.ErrShort || r.Left() != 0 {
		t.Errorf("behind the end: errno %v, end %v, left %d", r.Errno(), r.End(), r.Left())
	}
}

// TestAgainstModel holds every call, at every short row of telling bytes and on long ones that go on, against the model, to the errors and behind them.
func TestAgainstModel(t *testing.T) {
	rows := [][]call{
		{{'n', 0}, {'n', 0}, {'n', 0}},
		{{'f', 0}, {'f', 0}, {'n', 0}, {'f', 0}},
		{{'n', 0}, {'t', 1}, {'f', 0}},
		{{'f', 0}, {'t', 2}, {'n', 0}},
		{{'t', 0}, {'t', 3}, {'t', -1}},
		{{'t', math.MaxInt64}, {'f', 0}, {'t', 1}},
	}
	eachBytes("\x00\x01\x02\x7f\x80\x81\xff", 5, func(b string) {
		for _, calls := range rows {
			follow(t, b, calls)
		}
	})
	for n := range 13 {
		eachBytes("\x00\x01\x7f\x80\xff", 3, func(behind string) {
			for _, calls := range rows {
				follow(t, goOn(n)+behind, calls)
				follow(t, strings.Repeat("\xff", n)+behind, calls)
			}
		})
	}
}

// P2.4

func TestLaidIsReadAsItWas(t *testing.T) {
	var b []byte
	for _, n := range numbers() {
		b = lay.Number(b, n)
	}
	for _, s := range texts() {
		b = lay.Text(b, s)
	}
	b = lay.Number(lay.Flag(lay.Flag(b, true), false), -7)
	r := lay.Read(b)
	for _, n := range numbers() {
		if got := r.Number(); got != n {
			t.Errorf("%d is read as %d", n, got)
		}
	}
	for _, s := range texts() {
		if got := r.Text(len(s)); got != s {
			t.Errorf("%q is read as %q", s, got)
		}
	}
	if !r.Flag() || r.Flag() || r.Number() != 0 || r.End() != api.OK {
		t.Errorf("end %v, left %d", r.End(), r.Left())
	}
}

// TestAnyRowIsReadAsItWas lays rows of any kind, reads them as they were, then cut off behind each byte: one who reads a row that is cut off is told ErrShort.
func TestAnyRowIsReadAsItWas(t *testing.T) {
	chance := rand.New(rand.NewSource(2))
	for range 300 {
		var b []byte
		var calls []call
		var want []any
		for range 1 + chance.Intn(8) {
			switch chance.Intn(3) {
			case 0:
				n := chance.Int() >> chance.Intn(63)
				b, calls, want = lay.Number(b, n), append(calls, call{'n', 0}), append(want, n)
			case 1:
				s := make([]byte, chance.Intn(200))
				chance.Read(s)
				b, calls, want = lay.Text(b, string(s)), append(calls, call{'t', len(s) + chance.Intn(2)}), append(want, string(s))
			case 2:
				is := chance.Intn(2) == 1
				b, calls, want = lay.Flag(b, is), append(calls, call{'f', 0}), append(want, is)
			}
		}
		if r := readAll(t, b, calls, want); r.End() != api.OK {
			t.Fatalf("%q: end %v", b, r.End())
		}
		for cut := range len(b) {
			if r := readAll(t, b[:cut], calls, nil); r.End() != api.ErrShort {
				t.Fatalf("%q cut off at %d: end %v", b, cut, r.End())
			}
		}
	}
}

// readAll makes the calls of a reader of b, and holds what they tell against what is wanted, if anything is.
func readAll(t *testing.T, b []byte, calls []call, want []any) *lay.Reader {
	t.Helper()
	r := lay.Read(b)
	for i, c := range calls {
		var got any
		switch c.what {
		case 'n':
			got = r.Number()
		case 't':
			got = r.Text(c.most)
		case 'f':
			got = r.Flag()
		}
		if want != nil && got != want[i] {
			t.Fatalf("%q: call %d told %v, want %v", b, i, got, want[i])
		}
	}
	return r
}
