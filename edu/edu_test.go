package edu_test

import (
	"bytes"
	"cmp"
	"encoding/binary"
	"math"
	"math/rand"
	"slices"
	"strings"
	"testing"
	"unsafe"

	"concourse/api"
	"concourse/edu"
)

func long(n int) string { return strings.Repeat("a", n) }

func receipt() api.Edu {
	return api.Edu{Kind: api.Receipt, Room: "!r:s", User: "@a:s", Event: "$e", Thread: "main", Tick: 7, Stamp: 300}
}

func typing() api.Edu {
	return api.Edu{Kind: api.Typing, Room: "!r:s", User: "@a:s", On: true, Span: 5, Stamp: 1}
}

func stopped() api.Edu {
	return api.Edu{Kind: api.Typing, Room: "!r:s", User: "@a:s", Tick: 3, Stamp: 2}
}

func presence() api.Edu {
	return api.Edu{Kind: api.Presence, User: "@a:s", State: api.Online, Tick: api.MaxNumber}
}

func ofEachKind() []api.Edu { return []api.Edu{receipt(), typing(), stopped(), presence()} }

// with is an EDU that is changed in one way.
func with(e api.Edu, change func(e *api.Edu)) api.Edu {
	change(&e)
	return e
}

// modelBytes is an EDU's bytes by the chapter's words, its numbers laid by the library, which lays them in the same way.
func modelBytes(e api.Edu) string {
	b := binary.AppendUvarint(nil, uint64(e.Kind))
	for _, s := range []string{e.Room, e.User, e.Event, e.Thread} {
		b = append(binary.AppendUvarint(b, uint64(len(s))), s...)
	}
	if e.On {
		b = append(b, 1)
	} else {
		b = append(b, 0)
	}
	for _, n := range []int{e.Span, e.State, e.Tick, e.Stamp} {
		b = binary.AppendUvarint(b, uint64(n))
	}
	return string(b)
}

// modelCompare is by Stamp, then by the bytes.
func modelCompare(a, b api.Edu) int {
	return cmp.Or(cmp.Compare(a.Stamp, b.Stamp), strings.Compare(modelBytes(a), modelBytes(b)))
}

// field is the values that a field of an EDU is given here.
type field struct {
	put    func(e *api.Edu, i int)
	values int
}

func textField(of func(e *api.Edu) *string, values ...string) field {
	return field{func(e *api.Edu, i int) { *of(e) = values[i] }, len(values)}
}

func numberField(of func(e *api.Edu) *int, values ...int) field {
	return field{func(e *api.Edu, i int) { *of(e) = values[i] }, len(values)}
}

func flagField(of func(e *api.Edu) *bool) field {
	return field{func(e *api.Edu, i int) { *of(e) = i == 1 }, 2}
}

// The values of the fields: right ones, and wrong ones on both sides of them.
func fields() []field {
	return []field{
		numberField(func(e *api.Edu) *int { return &e.Kind }, -1, 0, 1, 2, 3, 4),
		textField(func(e *api.Edu) *string { return &e.Room }, "", "!r:s", "@a:s"),
		textField(func(e *api.Edu) *string { return &e.User }, "", "@a:s", "!r:s"),
		textField(func(e *api.Edu) *string { return &e.Event }, "", "$e", "main"),
		textField(func(e *api.Edu) *string { return &e.Thread }, "", "main", "$t", "t"),
		flagField(func(e *api.Edu) *bool { return &e.Private }),
		flagField(func(e *api.Edu) *bool { return &e.On }),
		numberField(func(e *api.Edu) *int { return &e.Span }, -1, 0, 1, 60, 61),
		numberField(func(e *api.Edu) *int { return &e.State }, -1, 0, 1, 2, 3),
		numberField(func(e *api.Edu) *int { return &e.Tick }, -1, 0, 1<<40, 1<<40+1),
		numberField(func(e *api.Edu) *int { return &e.Stamp }, -1, 0, 1<<40, 1<<40+1),
	}
}

// eachEdu tells every EDU of the values of these fields.
func eachEdu(all []field, tell func(e api.Edu)) {
	var put func(e api.Edu, rest []field)
	put = func(e api.Edu, rest []field) {
		if len(rest) == 0 {
			tell(e)
			return
		}
		for i := range rest[0].values {
			rest[0].put(&e, i)
			put(e, rest[1:])
		}
	}
	put(api.Edu{}, all)
}

// modelLocal tells, of the values above alone, what the chapter's list says of them, field by field.
func modelLocal(e api.Edu) bool {
	room, user := e.Room == "!r:s", e.User == "@a:s"
	counted := (e.Tick == 0 || e.Tick == 1<<40) && (e.Stamp == 0 || e.Stamp == 1<<40)
	switch e.Kind {
	case 1:
		return counted && room && user && e.Event == "$e" && e.Thread != "t" && !e.On && e.Span == 0 && e.State == 0
	case 2:
		spanned := !e.On && e.Span == 0 || e.On && (e.Span == 1 || e.Span == 60)
		return counted && room && user && spanned && e.Event == "" && e.Thread == "" && !e.Private && e.State == 0
	case 3:
		return counted && user && e.Room == "" && e.Event == "" && e.Thread == "" && !e.Private && !e.On && e.Span == 0 && 0 <= e.State && e.State <= 2
	}
	return false
}

func checkRefused(t *testing.T, e api.Edu) {
	t.Helper()
	if b, errno := edu.Write(e); len(b) != 0 || errno != api.ErrArg {
		t.Errorf("Write(%+v) = %q, %d", e, b, errno)
	}
}

func checkNoEdu(t *testing.T, b string) {
	t.Helper()
	if e, errno := edu.Read([]byte(b)); e != (api.Edu{}) || errno != api.ErrForm {
		t.Errorf("Read(%q) = %+v, %d", b, e, errno)
	}
}

func checkWritten(t *testing.T, e api.Edu) {
	t.Helper()
	b, errno := edu.Write(e)
	if string(b) != modelBytes(e) || errno != api.OK {
		t.Errorf("Write(%+v) = %q, %d; want %q", e, b, errno, modelBytes(e))
	}
	if again, errno := edu.Read(b); again != e || errno != api.OK {
		t.Errorf("Read(%q) = %+v, %d; want %+v", b, again, errno, e)
	}
}

// P3.1

func TestLocalAndMay(t *testing.T) {
	for i, x := range []struct {
		e          api.Edu
		local, may bool
	}{
		{receipt(), true, true}, {typing(), true, true}, {stopped(), true, true}, {presence(), true, true},
		{with(receipt(), func(e *api.Edu) { e.Private = true }), true, false},
		{with(receipt(), func(e *api.Edu) { e.Private, e.Thread = true, "" }), true, false},
		{with(receipt(), func(e *api.Edu) { e.Private, e.Room = true, "" }), false, false},
		{with(typing(), func(e *api.Edu) { e.Private = true }), false, false},
		{with(stopped(), func(e *api.Edu) { e.Private = true }), false, false},
		{with(presence(), func(e *api.Edu) { e.Private = true }), false, false},
		{api.Edu{}, false, false},
		{api.Edu{Kind: api.Receipt}, false, false},
		{api.Edu{Kind: api.Typing}, false, false},
		{api.Edu{Kind: api.Presence}, false, false},
		{api.Edu{Kind: api.Presence, User: "@a:s"}, true, true},
	} {
		if edu.Local(x.e) != x.local || edu.May(x.e) != x.may {
			t.Errorf("%d: %+v: Local %v, May %v; want %v, %v", i, x.e, edu.Local(x.e), edu.May(x.e), x.local, x.may)
		}
	}
}

func TestEveryKind(t *testing.T) {
	for _, e := range ofEachKind() {
		for _, kind := range []int{-1 << 63, -3, -1, 0, 1, 2, 3, 4, 5, 255, 256 + e.Kind, 1<<32 + e.Kind, math.MaxInt64} {
			other := with(e, func(e *api.Edu) { e.Kind = kind })
			if is := kind == e.Kind; edu.Local(other) != is || edu.May(other) != is {
				t.Errorf("%+v: Local %v, May %v; want %v", other, edu.Local(other), edu.May(other), is)
			}
		}
	}
}

func TestEveryTickAndStamp(t *testing.T) {
	for _, e := range ofEachKind() {
		for n, want := range map[int]bool{
			math.MinInt64: false, -1: false, 0: true, 1: true, 127: true, 128: true, 1<<40 - 1: true, 1 << 40: true,
			1<<40 + 1: false, 1 << 41: false, math.MaxInt64: false,
		} {
			for _, e := range []api.Edu{with(e, func(e *api.Edu) { e.Tick = n }), with(e, func(e *api.Edu) { e.Stamp = n })} {
				if edu.Local(e) != want || edu.May(e) != want {
					t.Errorf("%+v is not told as %v", e, want)
				}
				if want {
					checkWritten(t, e)
				} else {
					checkRefused(t, e)
				}
			}
		}
	}
}

func TestEverySpanAndState(t *testing.T) {
	for n := -70; n < 200; n++ {
		on, off := with(typing(), func(e *api.Edu) { e.Span = n }), with(stopped(), func(e *api.Edu) { e.Span = n })
		if edu.Local(on) != (1 <= n && n <= 60) || edu.Local(off) != (n == 0) {
			t.Errorf("a span of %d: on %v, off %v", n, edu.Local(on), edu.Local(off))
		}
		there := with(presence(), func(e *api.Edu) { e.State = n })
		if edu.Local(there) != (n == api.Offline || n == api.Away || n == api.Online) {
			t.Errorf("a state of %d: %v", n, edu.Local(there))
		}
	}
}

func TestTextsOfTheirForm(t *testing.T) {
	for _, x := range []struct {
		of        func(e *api.Edu) *string
		good, bad []string
	}{
		{func(e *api.Edu) *string { return &e.Room },
			[]string{"!a:b", "!._-:a.b", "!" + long(16) + ":" + long(16)},
			[]string{"", "!", "r", "r:s", "!r", "!r:", "!:s", "!r:-a", "!R:s", "!r:s ", "@a:s", "$e", "main", "!" + long(17) + ":a", "!a:" + long(17)}},
		{func(e *api.Edu) *string { return &e.User },
			[]string{"@a:b", "@._-:a.b", "@" + long(16) + ":" + long(16)},
			[]string{"", "@", "a", "a:s", "@a", "@a:", "@:s", "@a:-a", "@A:s", "@a:s ", "!r:s", "$e", "main", "@" + long(17) + ":a", "@a:" + long(17)}},
		{func(e *api.Edu) *string { return &e.Event },
			[]string{"$a", "$Z", "$-_", "$main", "$" + long(16)},
			[]string{"", "$", "e", "main", "$a.b", "$e ", "@a:s", "!r:s", "$" + long(17)}},
		{func(e *api.Edu) *string { return &e.Thread },
			[]string{"", "main", "$a", "$Z", "$main", "$" + long(16)},
			[]string{"$", "e", "Main", "main ", "mai", "$a.b", "@a:s", "!r:s", "$" + long(17)}},
	} {
		for _, e := range ofEachKind() {
			if *x.of(&e) == "" { // a kind that does not name it
				continue
			}
			for _, s := range x.good {
				*x.of(&e) = s
				if !edu.Local(e) || !edu.May(e) {
					t.Errorf("%+v may not be", e)
				}
				checkWritten(t, e)
			}
			for _, s := range x.bad {
				*x.of(&e) = s
				if edu.Local(e) || edu.May(e) {
					t.Errorf("%+v may be", e)
				}
				checkRefused(t, e)
				checkNoEdu(t, modelBytes(e))
			}
		}
	}
}

func TestFieldsThatAreNotNamed(t *testing.T) {
	for _, x := range []struct {
		name   string
		change func(e *api.Edu)
		of     []api.Edu
	}{
		{"Room", func(e *api.Edu) { e.Room = "!r:s" }, []api.Edu{presence()}},
		{"Event", func(e *api.Edu) { e.Event = "$e" }, []api.Edu{typing(), stopped(), presence()}},
		{"Thread", func(e *api.Edu) { e.Thread = "main" }, []api.Edu{typing(), stopped(), presence()}},
		{"Private", func(e *api.Edu) { e.Private = true }, []api.Edu{typing(), stopped(), presence()}},
		{"On", func(e *api.Edu) { e.On = true }, []api.Edu{receipt(), presence()}},
		{"Span", func(e *api.Edu) { e.Span = 1 }, []api.Edu{receipt(), stopped(), presence()}},
		{"On and Span", func(e *api.Edu) { e.On, e.Span = true, 1 }, []api.Edu{receipt(), presence()}},
		{"State", func(e *api.Edu) { e.State = api.Away }, []api.Edu{receipt(), typing(), stopped()}},
	} {
		for _, e := range x.of {
			e = with(e, x.change)
			if edu.Local(e) || edu.May(e) {
				t.Errorf("%s: %+v may be", x.name, e)
			}
			checkRefused(t, e)
			if !e.Private { // which is not in the bytes
				checkNoEdu(t, modelBytes(e))
			}
		}
	}
}

func TestEveryEduOfTheEdges(t *testing.T) {
	may := 0
	eachEdu(fields(), func(e api.Edu) {
		want := modelLocal(e)
		if edu.Local(e) != want || edu.May(e) != (want && !e.Private) {
			t.Fatalf("%+v: Local %v, May %v; want Local %v", e, edu.Local(e), edu.May(e), want)
		}
		if !want || e.Private {
			if b, errno := edu.Write(e); len(b) != 0 || errno != api.ErrArg {
				t.Fatalf("Write(%+v) = %q, %d", e, b, errno)
			}
			return
		}
		may++
		checkWritten(t, e)
	})
	if may != 4*(3+1+2+3) { // ticks and stamps, by threads, off, spans and states
		t.Errorf("%d of them may be", may)
	}
}

func TestBytesOfWhatMayNotBe(t *testing.T) {
	eachEdu(fields(), func(e api.Edu) {
		if min(e.Kind, e.Span, e.State, e.Tick, e.Stamp) < 0 || e.Private || modelLocal(e) {
			return // what has no bytes of its own, or may be
		}
		if got, errno := edu.Read([]byte(modelBytes(e))); got != (api.Edu{}) || errno != api.ErrForm {
			t.Fatalf("Read of the bytes of %+v = %+v, %d", e, got, errno)
		}
	})
}

func TestExamples(t *testing.T) {
	for _, x := range []struct {
		e    api.Edu
		want string
	}{
		{typing(), "\x02\x04!r:s\x04@a:s\x00\x00\x01\x05\x00\x00\x01"},
		{stopped(), "\x02\x04!r:s\x04@a:s\x00\x00\x00\x00\x00\x03\x02"},
		{receipt(), "\x01\x04!r:s\x04@a:s\x02$e\x04main\x00\x00\x00\x07\xac\x02"},
		{presence(), "\x03\x00\x04@a:s\x00\x00\x00\x00\x02\x80\x80\x80\x80\x80\x20\x00"},
	} {
		if b, errno := edu.Write(x.e); string(b) != x.want || errno != api.OK {
			t.Errorf("Write(%+v) = %q, %d; want %q", x.e, b, errno, x.want)
		}
		if e, errno := edu.Read([]byte(x.want)); e != x.e || errno != api.OK {
			t.Errorf("Read(%q) = %+v, %d; want %+v", x.want, e, errno, x.e)
		}
	}
}

func TestPrivateIsNotWritten(t *testing.T) {
	e := with(receipt(), func(e *api.Edu) { e.Private = true })
	checkRefused(t, e)
	if again, errno := edu.Read([]byte(modelBytes(e))); again != receipt() || errno != api.OK {
		t.Errorf("its bytes are read as %+v, %d", again, errno)
	}
}

func TestBytesCutOffOrWithMore(t *testing.T) {
	checkNoEdu(t, "")
	for _, e := range ofEachKind() {
		b := modelBytes(e)
		for i := range len(b) {
			checkNoEdu(t, b[:i])
			checkNoEdu(t, b[i+1:])
		}
		for c := range 256 {
			checkNoEdu(t, b+string([]byte{byte(c)}))
			checkNoEdu(t, string([]byte{byte(c)})+b)
		}
		for _, other := range ofEachKind() {
			checkNoEdu(t, b+modelBytes(other))
		}
	}
}

func TestEveryByteInEveryPlace(t *testing.T) {
	read, refused := 0, 0
	for _, e := range ofEachKind() {
		for i := range len(modelBytes(e)) {
			for c := range 256 {
				b := []byte(modelBytes(e))
				b[i] = byte(c)
				got, errno := edu.Read(b)
				if errno == api.OK {
					read++
					if !edu.May(got) || modelBytes(got) != string(b) {
						t.Errorf("Read(%q) = %+v, which has other bytes, or may not be", b, got)
					}
					continue
				}
				refused++
				if got != (api.Edu{}) || errno != api.ErrForm {
					t.Errorf("Read(%q) = %+v, %d", b, got, errno)
				}
			}
		}
	}
	if read < 1000 || refused < 1000 {
		t.Errorf("%d were read, %d were not", read, refused)
	}
}

func TestBytesOfNoForm(t *testing.T) {
	for what, b := range map[string]string{
		"a kind with a nought more":  "\x82\x00\x04!r:s\x04@a:s\x00\x00\x01\x05\x00\x00\x01",
		"a span with a nought more":  "\x02\x04!r:s\x04@a:s\x00\x00\x01\x85\x00\x00\x00\x01",
		"a stamp with a nought more": "\x02\x04!r:s\x04@a:s\x00\x00\x01\x05\x00\x00\x81\x00",
		"a length with one more":     "\x02\x84\x00!r:s\x04@a:s\x00\x00\x01\x05\x00\x00\x01",
		"a flag of 2":                "\x02\x04!r:s\x04@a:s\x00\x00\x02\x05\x00\x00\x01",
		"a flag of two bytes":        "\x02\x04!r:s\x04@a:s\x00\x00\x81\x00\x05\x00\x00\x01",
		"a number without an end":    "\x02\x04!r:s\x04@a:s\x00\x00\x01\x05\x00\x00" + strings.Repeat("\x80", 20),
		"the greatest number":        "\x02\x04!r:s\x04@a:s\x00\x00\x01\x05\x00\x00" + strings.Repeat("\xff", 8) + "\x7f",
		"the greatest length":        "\x02" + strings.Repeat("\xff", 8) + "\x7f!r:s\x04@a:s\x00\x00\x01\x05\x00\x00\x01",
		"texts in another row":       "\x02\x04@a:s\x04!r:s\x00\x00\x01\x05\x00\x00\x01",
		"a room of 35 bytes":         "\x02\x23!" + long(16) + ":" + long(17) + "\x04@a:s\x00\x00\x01\x05\x00\x00\x01",
		"a great many bytes":         strings.Repeat("\x02", 1<<20),
	} {
		if e, errno := edu.Read([]byte(b)); e != (api.Edu{}) || errno != api.ErrForm {
			t.Errorf("%s: %+v, %d", what, e, errno)
		}
	}
}

// P3.2

func TestOf(t *testing.T) {
	for i, x := range []struct {
		e    api.Edu
		want edu.Key
	}{
		{receipt(), edu.Key{Kind: 1, Room: "!r:s", User: "@a:s", Thread: "main"}},
		{with(receipt(), func(e *api.Edu) { e.Private, e.Thread = true, "$t" }), edu.Key{Kind: 1, Room: "!r:s", User: "@a:s", Thread: "$t", Private: true}},
		{with(receipt(), func(e *api.Edu) { e.Event, e.Tick, e.Stamp = "$f", 1, 2 }), edu.Of(receipt())},
		{typing(), edu.Key{Kind: 2, Room: "!r:s", User: "@a:s"}},
		{stopped(), edu.Of(typing())},
		{presence(), edu.Key{Kind: 3, User: "@a:s"}},
		{with(presence(), func(e *api.Edu) { e.State, e.Stamp = api.Offline, 9 }), edu.Of(presence())},
		{api.Edu{}, edu.Key{}},
		{api.Edu{Event: "$e", On: true, Span: -1, State: 7, Tick: -3, Stamp: 1 << 50}, edu.Key{}},
		{api.Edu{Kind: -5, Room: "r", User: "\xff", Thread: "t", Private: true}, edu.Key{Kind: -5, Room: "r", User: "\xff", Thread: "t", Private: true}},
	} {
		if got := edu.Of(x.e); got != x.want {
			t.Errorf("%d: Of(%+v) = %+v, want %+v", i, x.e, got, x.want)
		}
	}
}

func TestOfEveryEdu(t *testing.T) {
	eachEdu(fields(), func(e api.Edu) {
		if got := edu.Of(e); got.Kind != e.Kind || got.Room != e.Room || got.User != e.User || got.Thread != e.Thread || got.Private != e.Private {
			t.Fatalf("Of(%+v) = %+v", e, got)
		}
	})
}

// many are EDUs that may be, of a few keys, with many edges of each other field.
func many() []api.Edu {
	var all []api.Edu
	counts := []int{0, 1, 127, 128, 129, 255, 256, 1<<40 - 1, 1 << 40}
	for _, room := range []string{"!r:s", "!q:s", "!aa:s"} {
		for _, thread := range []string{"", "main", "$t"} {
			for _, event := range []string{"$e", "$f", "$E", "$aa", "$-"} {
				all = append(all, api.Edu{Kind: api.Receipt, Room: room, User: "@a:s", Event: event, Thread: thread, Tick: 1, Stamp: 2})
			}
		}
		for _, span := range []int{0, 1, 5, 60} {
			all = append(all, api.Edu{Kind: api.Typing, Room: room, User: "@a:s", On: span > 0, Span: span, Stamp: 2})
		}
	}
	for _, tick := range counts {
		for _, stamp := range counts {
			all = append(all, with(receipt(), func(e *api.Edu) { e.Tick, e.Stamp = tick, stamp }))
		}
		for state := range 3 {
			all = append(all, api.Edu{Kind: api.Presence, User: "@a:s", State: state, Tick: tick, Stamp: 2})
		}
		all = append(all, api.Edu{Kind: api.Presence, User: "@b:s", Tick: tick, Stamp: 2})
	}
	return all
}

func TestCompareAndLater(t *testing.T) {
	small, great := receipt(), receipt()
	for i, x := range []struct {
		less, more func(e *api.Edu)
	}{
		{func(e *api.Edu) { e.Stamp = 0 }, func(e *api.Edu) { e.Stamp = 1 }},
		{func(e *api.Edu) { e.Stamp = 1<<40 - 1 }, func(e *api.Edu) { e.Stamp = 1 << 40 }},
		{func(e *api.Edu) { e.Stamp = 129 }, func(e *api.Edu) { e.Stamp = 256 }},                       // whose bytes are less
		{func(e *api.Edu) { e.Stamp, e.Event, e.Tick = 1, "$z", 9 }, func(e *api.Edu) { e.Stamp = 2 }}, // stamps go ahead of bytes
		{func(e *api.Edu) { e.Event = "$e" }, func(e *api.Edu) { e.Event = "$f" }},
		{func(e *api.Edu) { e.Event = "$Z" }, func(e *api.Edu) { e.Event = "$a" }},
		{func(e *api.Edu) { e.Event = "$z" }, func(e *api.Edu) { e.Event = "$aa" }}, // a length goes ahead of its text
		{func(e *api.Edu) { e.Tick = 0 }, func(e *api.Edu) { e.Tick = 1 }},
		{func(e *api.Edu) { e.Tick = 127 }, func(e *api.Edu) { e.Tick = 128 }},
		{func(e *api.Edu) { e.Tick = 256 }, func(e *api.Edu) { e.Tick = 129 }}, // by bytes, not by the number
		{func(e *api.Edu) { e.Tick = 128 }, func(e *api.Edu) { e.Tick = 255 }},
		{func(e *api.Edu) { *e = stopped(); e.Stamp = 1 }, func(e *api.Edu) { *e = typing() }},
		{func(e *api.Edu) { *e = typing(); e.Span = 1 }, func(e *api.Edu) { *e = typing(); e.Span = 60 }},
		{func(e *api.Edu) { *e = presence(); e.State = 0 }, func(e *api.Edu) { *e = presence(); e.State = 1 }},
	} {
		small, great = receipt(), receipt()
		x.less(&small)
		x.more(&great)
		if edu.Compare(small, great) != -1 || edu.Compare(great, small) != 1 || edu.Compare(small, small) != 0 || edu.Compare(great, great) != 0 {
			t.Errorf("%d: Compare of %+v and %+v", i, small, great)
		}
		if edu.Later(small, great) || !edu.Later(great, small) || edu.Later(small, small) || edu.Later(great, great) {
			t.Errorf("%d: Later of %+v and %+v", i, small, great)
		}
	}
}

func TestDifferentKeys(t *testing.T) {
	for i, x := range []struct{ less, more api.Edu }{
		{receipt(), with(receipt(), func(e *api.Edu) { e.Room, e.Stamp = "!q:s", 301 })},
		{receipt(), with(receipt(), func(e *api.Edu) { e.User, e.Stamp = "@b:s", 301 })},
		{receipt(), with(receipt(), func(e *api.Edu) { e.Thread, e.Stamp = "", 301 })},
		{receipt(), with(receipt(), func(e *api.Edu) { e.Thread, e.Stamp = "$t", 301 })},
		{receipt(), with(receipt(), func(e *api.Edu) { e.Thread = "$main" })},
		{typing(), receipt()},
		{presence(), typing()},
		{stopped(), with(presence(), func(e *api.Edu) { e.Stamp = 2 })},
	} {
		if edu.Compare(x.less, x.more) != -1 || edu.Compare(x.more, x.less) != 1 {
			t.Errorf("%d: Compare of %+v and %+v", i, x.less, x.more)
		}
		if edu.Later(x.less, x.more) || edu.Later(x.more, x.less) {
			t.Errorf("%d: of %+v and %+v one is later", i, x.less, x.more)
		}
	}
}

func TestEveryPair(t *testing.T) {
	for _, a := range many() {
		for _, b := range many() {
			want := modelCompare(a, b)
			if got := edu.Compare(a, b); got != want {
				t.Fatalf("Compare(%+v, %+v) = %d, want %d", a, b, got, want)
			}
			same := a.Kind == b.Kind && a.Room == b.Room && a.User == b.User && a.Thread == b.Thread
			if got := edu.Later(a, b); got != (same && want > 0) {
				t.Fatalf("Later(%+v, %+v) = %v", a, b, got)
			}
		}
	}
}

// P3.3

func TestOneOfTwoIsLater(t *testing.T) {
	pairs := 0
	for _, a := range many() {
		for _, b := range many() {
			if edu.Of(a) != edu.Of(b) {
				continue
			}
			pairs++
			first, second := edu.Later(a, b), edu.Later(b, a)
			if a == b && (first || second) || a != b && first == second {
				t.Fatalf("%+v and %+v: later %v, %v", a, b, first, second)
			}
		}
	}
	if pairs < 5000 {
		t.Errorf("%d pairs were of one key", pairs)
	}
}

func TestLatestIsTheSameInEveryRow(t *testing.T) {
	latest := func(all []api.Edu) map[edu.Key]api.Edu {
		kept := map[edu.Key]api.Edu{}
		for _, e := range all {
			if was, ok := kept[edu.Of(e)]; !ok || edu.Later(e, was) {
				kept[edu.Of(e)] = e
			}
		}
		return kept
	}
	all, random := many(), rand.New(rand.NewSource(3))
	want := latest(all)
	for range 50 {
		random.Shuffle(len(all), func(i, j int) { all[i], all[j] = all[j], all[i] })
		for k, e := range latest(all) {
			if want[k] != e {
				t.Fatalf("of %+v %+v is the latest, and %+v in another row", k, want[k], e)
			}
		}
	}
}

// anyEdu is one that may be, by chance.
func anyEdu(random *rand.Rand) api.Edu {
	some := func(alphabet string) string {
		b := make([]byte, 1+random.Intn(16))
		for i := range b {
			b[i] = alphabet[random.Intn(len(alphabet))]
		}
		return string(b)
	}
	half := func() string { return some("az09.-_") + ":" + some("az09") }
	count := func() int { return random.Intn(1<<random.Intn(41) + 1) }
	e := api.Edu{Kind: 1 + random.Intn(3), User: "@" + half(), Tick: count(), Stamp: count()}
	switch e.Kind {
	case api.Receipt:
		e.Room, e.Event = "!"+half(), "$"+some("azAZ09-_")
		e.Thread = []string{"", "main", "$" + some("azAZ09-_")}[random.Intn(3)]
	case api.Typing:
		e.Room, e.On = "!"+half(), random.Intn(2) == 1
		if e.On {
			e.Span = 1 + random.Intn(60)
		}
	case api.Presence:
		e.State = random.Intn(3)
	}
	return e
}

func TestWrittenIsReadAsItWas(t *testing.T) {
	for _, e := range many() {
		checkWritten(t, e)
	}
	random := rand.New(rand.NewSource(1))
	for range 20000 {
		checkWritten(t, anyEdu(random))
	}
}

func TestReadIsWrittenAsItWas(t *testing.T) {
	random, read := rand.New(rand.NewSource(2)), 0
	for range 100000 {
		b := []byte(modelBytes(anyEdu(random)))
		for range 1 + random.Intn(2) {
			switch i := random.Intn(len(b)); random.Intn(3) {
			case 0:
				b[i] = byte(random.Intn(256))
			case 1:
				b = slices.Insert(b, i, byte(random.Intn(256)))
			case 2:
				b = slices.Delete(b, i, i+1)
			}
		}
		e, errno := edu.Read(b)
		if errno != api.OK {
			if e != (api.Edu{}) || errno != api.ErrForm {
				t.Fatalf("Read(%q) = %+v, %d", b, e, errno)
			}
			continue
		}
		read++
		if again, errno := edu.Write(e); !bytes.Equal(again, b) || errno != api.OK || modelBytes(e) != string(b) {
			t.Fatalf("Read(%q) = %+v, which is written %q, %d", b, e, again, errno)
		}
	}
	if read == 0 {
		t.Error("nothing was read")
	}
}

// R4

func TestNothingIsSharedOrChanged(t *testing.T) {
	for _, e := range ofEachKind() {
		first, _ := edu.Write(e)
		clear(first[:cap(first)])
		room := append(make([]byte, 0, 200), modelBytes(e)...)
		copy(room[len(room):cap(room)], strings.Repeat("x", 200))
		was := bytes.Clone(room[:cap(room)])
		got, errno := edu.Read(room)
		if !bytes.Equal(room[:cap(room)], was) {
			t.Errorf("Read changed its bytes, or their spare room: %q", room[:cap(room)])
		}
		clear(room)
		if got != e || errno != api.OK {
			t.Errorf("Read gave %+v, %d, which shares memory with the bytes", got, errno)
		}
		checkWritten(t, e)
	}
}

func TestKeyIsNewMemory(t *testing.T) {
	e := receipt()
	k := edu.Of(e)
	for _, x := range [][2]string{{e.Room, k.Room}, {e.User, k.User}, {e.Thread, k.Thread}} {
		if unsafe.StringData(x[0]) == unsafe.StringData(x[1]) {
			t.Errorf("%q is the EDU's own memory", x[1])
		}
	}
}
