package parcel_test

import (
	"bytes"
	"encoding/binary"
	"math"
	"math/rand"
	"regexp"
	"slices"
	"strings"
	"testing"
	"unsafe"

	"concourse/api"
	"concourse/edu"
	"concourse/parcel"
)

func long(n int) string { return strings.Repeat("a", n) }

func receipt() api.Edu {
	return api.Edu{Kind: api.Receipt, Room: "!r:s", User: "@a:s", Event: "$e", Thread: "main", Tick: 7, Stamp: 300}
}

func typing() api.Edu {
	return api.Edu{Kind: api.Typing, Room: "!r:s", User: "@a:s", On: true, Span: 5, Stamp: 1}
}

func stopped() api.Edu {
	return api.Edu{Kind: api.Typing, Room: "!r:s", User: "@a:s", Tick: 3, Stamp: 2}
}

func presence() api.Edu {
	return api.Edu{Kind: api.Presence, User: "@a:s", State: api.Online, Tick: api.MaxNumber}
}

func private() api.Edu {
	e := receipt()
	e.Private = true
	return e
}

// longestEdu is one whose bytes are as many as there can be.
func longestEdu() api.Edu {
	half := long(16) + ":" + long(16)
	return api.Edu{Kind: api.Receipt, Room: "!" + half, User: "@" + half, Event: "$" + long(16), Thread: "$" + long(16), Tick: 1 << 40, Stamp: 1 << 40}
}

func ofEachKind() []api.Edu {
	return []api.Edu{receipt(), typing(), stopped(), presence(), longestEdu()}
}

// many is n EDUs that may be, of which none is as another one.
func many(n int) []api.Edu {
	var all []api.Edu
	for i := range n {
		e := ofEachKind()[i%5]
		e.Stamp = i
		all = append(all, e)
	}
	return all
}

// of is the parcel of 300 from s to t.u with these EDUs.
func of(edus ...api.Edu) parcel.Parcel {
	return parcel.Parcel{From: "s", To: "t.u", ID: 300, Edus: edus}
}

func answer() parcel.Parcel { return parcel.Parcel{Ack: true, From: "a", To: "b", ID: 3} }

// with is a parcel that is changed in one way.
func with(p parcel.Parcel, change func(p *parcel.Parcel)) parcel.Parcel {
	p.Edus = slices.Clone(p.Edus)
	change(&p)
	return p
}

// right are parcels.
func right() map[string]parcel.Parcel {
	return map[string]parcel.Parcel{
		"no EDU":             of(),
		"a receipt":          of(receipt()),
		"typing":             of(typing()),
		"stopped":            of(stopped()),
		"presence":           of(presence()),
		"the longest EDU":    of(longestEdu()),
		"one of each kind":   of(ofEachKind()...),
		"the same one twice": of(typing(), typing()),
		"many":               of(many(50)...),
		"99":                 of(many(99)...),
		"100":                of(many(100)...),
		"an answer":          answer(),
		"ID 1":               {From: "s", To: "t", ID: 1, Edus: many(1)},
		"ID 2^40":            {From: "s", To: "t", ID: 1 << 40, Edus: many(1)},
		"ID 2^40 - 1":        {From: "s", To: "t", ID: 1<<40 - 1},
		"an answer of 1":     {Ack: true, From: "s", To: "t", ID: 1},
		"an answer of 2^40":  {Ack: true, From: "s", To: "t", ID: 1 << 40},
		"an empty list":      {From: "s", To: "t", ID: 1, Edus: []api.Edu{}},
		"its answer's too":   {Ack: true, From: "s", To: "t", ID: 1, Edus: []api.Edu{}},
		"long servers":       {From: long(16), To: "b" + long(15), ID: 9, Edus: many(3)},
		"a server's head":    {From: "s.t", To: "s", ID: 9},
		"dots and dashes":    {From: "a.-b", To: "0--9", ID: 128},
	}
}

// wrong are no parcels, though each has bytes that are laid in the same way.
func wrong() map[string]parcel.Parcel {
	all := map[string]parcel.Parcel{
		"the zero one":               {},
		"an answer alone":            {Ack: true},
		"From and To the same":       {From: "s", To: "s", ID: 1},
		"an answer to itself":        {Ack: true, From: "s", To: "s", ID: 1},
		"ID 0":                       {From: "s", To: "t"},
		"an answer of 0":             {Ack: true, From: "s", To: "t"},
		"ID 2^40 + 1":                {From: "s", To: "t", ID: 1<<40 + 1},
		"an answer of 2^40 + 1":      {Ack: true, From: "s", To: "t", ID: 1<<40 + 1},
		"the greatest ID":            {From: "s", To: "t", ID: math.MaxInt64},
		"101":                        of(many(101)...),
		"200":                        of(many(200)...),
		"an answer with an EDU":      with(answer(), func(p *parcel.Parcel) { p.Edus = many(1) }),
		"an answer with 100":         with(answer(), func(p *parcel.Parcel) { p.Edus = many(100) }),
		"an answer with a wrong one": with(answer(), func(p *parcel.Parcel) { p.Edus = make([]api.Edu, 1) }),
		"the zero EDU":               of(api.Edu{}),
		"101 zero EDUs":              of(make([]api.Edu, 101)...),
	}
	for _, s := range []string{"", "S", ".s", "s.", "-s", "s-", "s_s", "s:t", "@a:s", "é", "s\x00", "s ", long(17), long(200)} {
		all["From "+s] = with(of(typing()), func(p *parcel.Parcel) { p.From = s })
		all["To "+s] = with(of(typing()), func(p *parcel.Parcel) { p.To = s })
		all["an answer from "+s] = with(answer(), func(p *parcel.Parcel) { p.From = s })
		all["an answer to "+s] = with(answer(), func(p *parcel.Parcel) { p.To = s })
	}
	for what, e := range map[string]api.Edu{
		"kind 4":     {Kind: 4, User: "@a:s"},
		"no user":    {Kind: api.Presence},
		"no room":    {Kind: api.Typing, User: "@a:s"},
		"no event":   {Kind: api.Receipt, Room: "!r:s", User: "@a:s"},
		"a long one": {Kind: api.Typing, Room: "!r:s", User: "@a:s", On: true, Span: 61},
		"late":       {Kind: api.Presence, User: "@a:s", Tick: 1<<40 + 1},
	} {
		all[what+", alone"] = of(e)
		all[what+", first"] = of(append([]api.Edu{e}, many(4)...)...)
		all[what+", between"] = of(receipt(), e, typing())
		all[what+", the 100th"] = of(append(many(99), e)...)
	}
	return all
}

// hidden are no parcels, and have no bytes of their own: those would be other ones'.
func hidden() map[string]parcel.Parcel {
	return map[string]parcel.Parcel{
		"ID -1":                   {From: "s", To: "t", ID: -1},
		"an answer of -1":         {Ack: true, From: "s", To: "t", ID: -1},
		"the least ID":            {From: "s", To: "t", ID: math.MinInt64},
		"a private EDU":           of(private()),
		"a private one, first":    of(append([]api.Edu{private()}, many(4)...)...),
		"a private one, between":  of(receipt(), private(), typing()),
		"a private one, the last": of(append(many(99), private())...),
		"a stamp below 0":         of(api.Edu{Kind: api.Presence, User: "@a:s", Stamp: -1}),
	}
}

// modelEdu is an EDU's bytes by its chapter's words, whether or not it may be; numbers are laid by the library, which lays them in the same way.
func modelEdu(e api.Edu) string {
	b := binary.AppendUvarint(nil, uint64(e.Kind))
	for _, s := range []string{e.Room, e.User, e.Event, e.Thread} {
		b = append(b, text(s)...)
	}
	b = append(b, flag(e.On))
	for _, n := range []int{e.Span, e.State, e.Tick, e.Stamp} {
		b = binary.AppendUvarint(b, uint64(n))
	}
	return string(b)
}

func number(n int) string { return string(binary.AppendUvarint(nil, uint64(n))) }

func text(s string) string { return number(len(s)) + s }

func flag(is bool) byte {
	if is {
		return 1
	}
	return 0
}

// modelHead is a parcel's bytes up to the number of its EDUs, which is told apart.
func modelHead(p parcel.Parcel, edus int) string {
	return string([]byte{flag(p.Ack)}) + text(p.From) + text(p.To) + number(p.ID) + number(edus)
}

// modelBytes is a parcel's bytes by the chapter's words, whether or not it is one.
func modelBytes(p parcel.Parcel) string {
	b := modelHead(p, len(p.Edus))
	for _, e := range p.Edus {
		b += text(modelEdu(e))
	}
	return b
}

var server = regexp.MustCompile(`\A[a-z0-9](?:[a-z0-9.-]{0,14}[a-z0-9])?\z`)

func modelMay(p parcel.Parcel) bool {
	for _, e := range p.Edus {
		if !edu.May(e) {
			return false
		}
	}
	return server.MatchString(p.From) && server.MatchString(p.To) && p.From != p.To && p.ID > 0 && p.ID <= 1<<40 && len(p.Edus) <= 100 && !(p.Ack && len(p.Edus) > 0)
}

// modelRead is the parcel of bytes, read without care; what has those very bytes, and may be, is theirs.
func modelRead(b string) (parcel.Parcel, bool) {
	rest := []byte(b)
	number := func() int {
		n, size := binary.Uvarint(rest)
		rest = rest[max(size, 0):]
		return int(n)
	}
	text := func() string {
		n := number()
		n = max(0, min(n, len(rest)))
		s := string(rest[:n])
		rest = rest[n:]
		return s
	}
	var p parcel.Parcel
	p.Ack = number() == 1
	p.From, p.To, p.ID = text(), text(), number()
	for range min(number(), 200) {
		e, _ := edu.Read([]byte(text()))
		p.Edus = append(p.Edus, e)
	}
	if !modelMay(p) || modelBytes(p) != b {
		return parcel.Parcel{}, false
	}
	return p, true
}

// same tells whether all fields are the same, by another way than the program's.
func same(a, b parcel.Parcel) bool {
	if len(a.Edus) != len(b.Edus) {
		return false
	}
	for i, e := range a.Edus {
		if e != b.Edus[i] {
			return false
		}
	}
	return a.Ack == b.Ack && a.From == b.From && a.To == b.To && a.ID == b.ID
}

func checkNoParcel(t *testing.T, what, b string) {
	t.Helper()
	if p, errno := parcel.Read([]byte(b)); !same(p, parcel.Parcel{}) || errno != api.ErrForm {
		t.Errorf("%s: Read(%.300q) = %+v, %d", what, b, p, errno)
	}
}

func checkRefused(t *testing.T, what string, p parcel.Parcel) {
	t.Helper()
	if parcel.May(p) {
		t.Errorf("%s: %+v may be", what, p)
	}
	if b, errno := parcel.Write(p); len(b) != 0 || errno != api.ErrArg {
		t.Errorf("%s: Write(%+v) = %q, %d", what, p, b, errno)
	}
}

func checkWritten(t *testing.T, what string, p parcel.Parcel) {
	t.Helper()
	if !parcel.May(p) {
		t.Errorf("%s: %+v may not be", what, p)
	}
	b, errno := parcel.Write(p)
	if string(b) != modelBytes(p) || errno != api.OK {
		t.Errorf("%s: Write(%+v) = %q, %d; want %q", what, p, b, errno, modelBytes(p))
	}
	if again, errno := parcel.Read([]byte(modelBytes(p))); !same(again, p) || errno != api.OK {
		t.Errorf("%s: Read(%.300q) = %+v, %d; want %+v", what, b, again, errno, p)
	}
}

// checkAny holds what is read of any bytes against the model, and tells whether it was a parcel.
func checkAny(t *testing.T, b string) bool {
	t.Helper()
	want, is := modelRead(b)
	wanted := api.ErrForm
	if is {
		wanted = api.OK
	}
	if got, errno := parcel.Read([]byte(b)); !same(got, want) || errno != wanted {
		t.Errorf("Read(%.300q) = %+v, %d; want %+v, %d", b, got, errno, want, wanted)
	}
	return is
}

// P4.1

func TestParcels(t *testing.T) {
	for what, p := range right() {
		checkWritten(t, what, p)
	}
}

func TestNoParcels(t *testing.T) {
	for what, p := range wrong() {
		checkRefused(t, what, p)
		checkNoParcel(t, what, modelBytes(p))
	}
	for what, p := range hidden() {
		checkRefused(t, what, p)
	}
}

func TestExamples(t *testing.T) {
	for _, x := range []struct {
		p    parcel.Parcel
		want string
	}{
		{answer(), "\x01\x01a\x01b\x03\x00"},
		{of(), "\x00\x01s\x03t.u\xac\x02\x00"},
		{of(typing()), "\x00\x01s\x03t.u\xac\x02\x01\x12\x02\x04!r:s\x04@a:s\x00\x00\x01\x05\x00\x00\x01"},
		{
			parcel.Parcel{From: "s", To: "t", ID: 1, Edus: []api.Edu{stopped(), presence()}},
			"\x00\x01s\x01t\x01\x02\x12\x02\x04!r:s\x04@a:s\x00\x00\x00\x00\x00\x03\x02\x13\x03\x00\x04@a:s\x00\x00\x00\x00\x02\x80\x80\x80\x80\x80\x20\x00",
		},
		{parcel.Parcel{Ack: true, From: "s", To: "t", ID: 1 << 40}, "\x01\x01s\x01t\x80\x80\x80\x80\x80\x20\x00"},
	} {
		if b, errno := parcel.Write(x.p); string(b) != x.want || errno != api.OK {
			t.Errorf("Write(%+v) = %q, %d; want %q", x.p, b, errno, x.want)
		}
		if p, errno := parcel.Read([]byte(x.want)); !same(p, x.p) || errno != api.OK {
			t.Errorf("Read(%.300q) = %+v, %d; want %+v", x.want, p, errno, x.p)
		}
	}
}

// TestEveryParcelOfTheEdges holds every choice of right and wrong fields against the chapter's words.
func TestEveryParcelOfTheEdges(t *testing.T) {
	lists := [][]api.Edu{
		nil, {typing()}, {receipt(), presence()}, many(100), many(101), {{}}, {private()}, {typing(), {Kind: 4}},
	}
	may := 0
	for _, from := range []string{"", "s", "t", "S", long(16), long(17)} {
		for _, to := range []string{"", "s", "t", "S", long(16), long(17)} {
			for _, id := range []int{math.MinInt64, -1, 0, 1, 1 << 40, 1<<40 + 1, math.MaxInt64} {
				for _, list := range lists {
					for _, ack := range []bool{false, true} {
						p := parcel.Parcel{Ack: ack, From: from, To: to, ID: id, Edus: list}
						if !modelMay(p) {
							checkRefused(t, "an edge", p)
							continue
						}
						may++
						checkWritten(t, "an edge", p)
					}
				}
			}
		}
	}
	if may != 6*2*(4+1) { // pairs of servers, IDs, lists, and the one that an answer has
		t.Errorf("%d of them may be", may)
	}
}

func TestPrivateIsNotWritten(t *testing.T) {
	// That an EDU is private is not in its bytes: were it laid, it would be another one's.
	p, errno := parcel.Read([]byte(modelBytes(of(private()))))
	if !same(p, of(receipt())) || errno != api.OK {
		t.Errorf("%+v, %d", p, errno)
	}
	checkRefused(t, "private", of(private()))
}

func TestBytesCutOffOrWithMore(t *testing.T) {
	checkNoParcel(t, "no bytes", "")
	for what, p := range right() {
		b := modelBytes(p)
		for i := range len(b) {
			checkNoParcel(t, what+", cut off", b[:i])
		}
		for c := range 256 {
			checkNoParcel(t, what+", and more", b+string([]byte{byte(c)}))
		}
		checkNoParcel(t, what+", twice", b+b)
		checkNoParcel(t, what+", and an answer", b+modelBytes(answer()))
		checkNoParcel(t, what+", and an EDU", b+text(modelEdu(typing())))
	}
}

func TestBytesCutOffAhead(t *testing.T) {
	for _, p := range []parcel.Parcel{of(), of(typing()), of(ofEachKind()...), answer()} {
		b := modelBytes(p)
		for i := range len(b) {
			if checkAny(t, b[i:]) != (i == 0) {
				t.Errorf("%q is a parcel", b[i:])
			}
		}
	}
}

func TestNumberOfEdusIsNotTheirs(t *testing.T) {
	for _, n := range []int{0, 1, 2, 5, 99, 100, 101} {
		p := of(many(n)...)
		body := strings.TrimPrefix(modelBytes(p), modelHead(p, n))
		for _, told := range []int{0, 1, 2, 3, 4, 5, 6, 99, 100, 101, 102, 127, 128, 228, 1 << 31, 1 << 40, math.MaxInt64} {
			if told != n {
				checkNoParcel(t, "a number that is not theirs", modelHead(p, told)+body)
			}
		}
		for _, told := range []string{"", "\x80", "\x80\x00", number(n + 128)[:1] + "\x00", strings.Repeat("\x80", 9), strings.Repeat("\xff", 9) + "\x01"} {
			head := modelHead(p, 0)
			checkNoParcel(t, "a number of no form", head[:len(head)-1]+told+body)
		}
	}
}

func TestEduTextsOfNoForm(t *testing.T) {
	head := modelHead(of(), 1)
	two := modelHead(of(), 2)
	for _, e := range ofEachKind() {
		own := modelEdu(e)
		for c := range 256 {
			checkNoParcel(t, "more behind an EDU's bytes", head+text(own+string([]byte{byte(c)})))
			checkNoParcel(t, "more ahead of them", head+text(string([]byte{byte(c)})+own))
		}
		for i := range len(own) {
			checkNoParcel(t, "an EDU's bytes that are cut off", head+text(own[:i]))
			checkNoParcel(t, "and another EDU behind", two+text(own[:i])+text(own))
		}
		checkNoParcel(t, "two EDUs in one text", head+text(own+own))
		checkNoParcel(t, "two EDUs in one text, and an empty one", two+text(own+own)+text(""))
		checkNoParcel(t, "an EDU without a length", head+own)
		checkNoParcel(t, "a length that is less", head+number(len(own)-1)+own)
		checkNoParcel(t, "a length that is more", head+number(len(own)+1)+own)
		checkNoParcel(t, "a length with a nought more", head+string([]byte{byte(len(own)) | 128, 0})+own)
		checkNoParcel(t, "the greatest length", head+number(math.MaxInt64)+own)
		checkNoParcel(t, "a length without an end", head+strings.Repeat("\x80", 9)+own)
		checkNoParcel(t, "an empty text", two+text(own)+text(""))
		checkNoParcel(t, "an empty text ahead", two+text("")+text(own))
		checkNoParcel(t, "a parcel in a parcel", head+text(modelBytes(of(e))))
	}
}

func TestHeadsOfNoForm(t *testing.T) {
	for what, b := range map[string]string{
		"a flag of 2":                 "\x02\x01s\x01t\x01\x00",
		"a flag of 255":               "\xff\x01s\x01t\x01\x00",
		"a flag of two bytes":         "\x81\x00\x01s\x01t\x01\x00",
		"no flag":                     "\x01s\x01t\x01\x00",
		"one server":                  "\x00\x01s\x01\x00",
		"a length with a nought":      "\x00\x81\x00s\x01t\x01\x00",
		"another length with one":     "\x00\x01s\x81\x00t\x01\x00",
		"an ID with a nought":         "\x00\x01s\x01t\x81\x00\x00",
		"an ID without an end":        "\x00\x01s\x01t" + strings.Repeat("\x80", 20),
		"an ID of 0, in two bytes":    "\x00\x01s\x01t\x80\x00\x00",
		"an ID of 2^64 + 1":           "\x00\x01s\x01t\x81\x80\x80\x80\x80\x80\x80\x80\x80\x02\x00",
		"the greatest ID":             "\x00\x01s\x01t" + strings.Repeat("\xff", 8) + "\x7f\x00",
		"a number with a nought":      "\x00\x01s\x01t\x01\x80\x00",
		"the greatest length":         "\x00" + strings.Repeat("\xff", 8) + "\x7fs\x01t\x01\x00",
		"a server of 17 bytes":        "\x00\x11" + long(17) + "\x01t\x01\x00",
		"another one":                 "\x00\x01s\x11" + long(17) + "\x01\x00",
		"101, and none":               "\x00\x01s\x01t\x01\x65",
		"an answer that tells of 1":   "\x01\x01s\x01t\x01\x01",
		"an answer with an empty one": "\x01\x01s\x01t\x01\x01\x00",
		"noughts":                     strings.Repeat("\x00", 100),
		"a great many noughts":        strings.Repeat("\x00", 1<<20),
		"a great many others":         strings.Repeat("\xff", 1<<20),
		"a great many behind":         "\x00\x01s\x01t\x01\x00" + strings.Repeat("\x00", 1<<20),
		"a great text":                "\x00\x01s\x01t\x01\x01" + text(strings.Repeat("\x02", 1<<20)),
		"a great many empty texts":    "\x00\x01s\x01t\x01" + number(1<<20) + strings.Repeat("\x00", 1<<20),
	} {
		checkNoParcel(t, what, b)
	}
}

func TestEveryByteInEveryPlace(t *testing.T) {
	read, not := 0, 0
	for _, p := range []parcel.Parcel{of(), of(typing()), of(ofEachKind()...), answer(), {From: long(16), To: "b", ID: 1 << 40, Edus: many(2)}} {
		for i := range len(modelBytes(p)) {
			for c := range 256 {
				b := []byte(modelBytes(p))
				b[i] = byte(c)
				if checkAny(t, string(b)) {
					read++
				} else {
					not++
				}
			}
		}
	}
	if read < 1000 || not < 1000 {
		t.Errorf("%d were read, %d were not", read, not)
	}
}

// P4.2

func TestAnswer(t *testing.T) {
	for what, p := range right() {
		if p.Ack {
			continue
		}
		got := parcel.Answer(p)
		if want := (parcel.Parcel{Ack: true, From: p.To, To: p.From, ID: p.ID}); !same(got, want) {
			t.Errorf("%s: Answer(%+v) = %+v", what, p, got)
		}
		checkWritten(t, what+", answered", got)
	}
}

func TestAnswersAreTheirOwn(t *testing.T) {
	p := of(ofEachKind()...)
	for what, change := range map[string]func(p *parcel.Parcel){
		"From": func(p *parcel.Parcel) { p.From = "x" },
		"To":   func(p *parcel.Parcel) { p.To = "x" },
		"ID":   func(p *parcel.Parcel) { p.ID++ },
	} {
		if same(parcel.Answer(p), parcel.Answer(with(p, change))) {
			t.Errorf("of another %s the answer is the same", what)
		}
	}
	if !same(parcel.Answer(p), parcel.Answer(of())) {
		t.Error("of other EDUs the answer is another one")
	}
}

// apart are parcels, of which each parts from the first one in one field.
func apart() []parcel.Parcel {
	base := of(ofEachKind()...)
	all := []parcel.Parcel{base}
	for _, change := range []func(p *parcel.Parcel){
		func(p *parcel.Parcel) { p.Ack = true },
		func(p *parcel.Parcel) { p.From = "S" },
		func(p *parcel.Parcel) { p.From = "" },
		func(p *parcel.Parcel) { p.To = "t" },
		func(p *parcel.Parcel) { p.From, p.To = p.To, p.From },
		func(p *parcel.Parcel) { p.ID = -300 },
		func(p *parcel.Parcel) { p.ID = 301 },
		func(p *parcel.Parcel) { p.Edus = nil },
		func(p *parcel.Parcel) { p.Edus = p.Edus[1:] },
		func(p *parcel.Parcel) { p.Edus = p.Edus[:4] },
		func(p *parcel.Parcel) { p.Edus = append(p.Edus, api.Edu{}) },
		func(p *parcel.Parcel) { p.Edus = append(p.Edus, p.Edus[4]) },
		func(p *parcel.Parcel) { slices.Reverse(p.Edus) },
		func(p *parcel.Parcel) { p.Edus[0], p.Edus[1] = p.Edus[1], p.Edus[0] },
	} {
		all = append(all, with(base, change))
	}
	for i := range base.Edus {
		for _, change := range []func(e *api.Edu){
			func(e *api.Edu) { e.Kind += 5 },
			func(e *api.Edu) { e.Room += "x" },
			func(e *api.Edu) { e.User += "x" },
			func(e *api.Edu) { e.Event += "x" },
			func(e *api.Edu) { e.Thread += "x" },
			func(e *api.Edu) { e.Private = !e.Private },
			func(e *api.Edu) { e.On = !e.On },
			func(e *api.Edu) { e.Span++ },
			func(e *api.Edu) { e.State-- },
			func(e *api.Edu) { e.Tick++ },
			func(e *api.Edu) { e.Stamp-- },
		} {
			all = append(all, with(base, func(p *parcel.Parcel) { change(&p.Edus[i]) }))
		}
	}
	return all
}

func TestSame(t *testing.T) {
	all := append(apart(), parcel.Parcel{}, answer())
	for i, a := range all {
		for j, b := range all {
			b = with(b, func(p *parcel.Parcel) {}) // its list is not a's own
			if got := parcel.Same(a, b); got != (i == j) {
				t.Errorf("Same(%+v, %+v) = %v", a, b, got)
			}
		}
	}
}

func TestSameOfNilAndEmptyLists(t *testing.T) {
	empty := with(of(), func(p *parcel.Parcel) { p.Edus = []api.Edu{} })
	roomy := with(of(), func(p *parcel.Parcel) { p.Edus = make([]api.Edu, 0, 9) })
	all := []parcel.Parcel{of(), empty, roomy}
	for _, a := range all {
		for _, b := range all {
			if !parcel.Same(a, b) {
				t.Errorf("%#v and %#v are not the same", a, b)
			}
		}
		if parcel.Same(a, of(api.Edu{})) || parcel.Same(of(api.Edu{}), a) {
			t.Errorf("%#v is the same as one with the zero EDU", a)
		}
		checkWritten(t, "an empty list", a)
	}
}

// P4.3

// anyEdu is one that may be, by chance.
func anyEdu(random *rand.Rand) api.Edu {
	some := func(alphabet string) string {
		b := make([]byte, 1+random.Intn(16))
		for i := range b {
			b[i] = alphabet[random.Intn(len(alphabet))]
		}
		return string(b)
	}
	half := func() string { return some("az09.-_") + ":" + some("az09") }
	count := func() int { return random.Intn(1<<random.Intn(41) + 1) }
	e := api.Edu{Kind: 1 + random.Intn(3), User: "@" + half(), Tick: count(), Stamp: count()}
	switch e.Kind {
	case api.Receipt:
		e.Room, e.Event = "!"+half(), "$"+some("azAZ09-_")
		e.Thread = []string{"", "main", "$" + some("azAZ09-_")}[random.Intn(3)]
	case api.Typing:
		e.Room, e.On = "!"+half(), random.Intn(2) == 1
		if e.On {
			e.Span = 1 + random.Intn(60)
		}
	case api.Presence:
		e.State = random.Intn(3)
	}
	return e
}

// anyParcel is one with at most so many EDUs, by chance.
func anyParcel(random *rand.Rand, most int) parcel.Parcel {
	some := func(first string) string {
		b := []byte(first)
		for range random.Intn(16) {
			b = append(b, "az09"[random.Intn(4)])
		}
		return string(b)
	}
	p := parcel.Parcel{Ack: random.Intn(5) == 0, From: some("s"), To: some("t"), ID: 1 + random.Intn(1<<random.Intn(41))}
	if p.Ack {
		return p
	}
	for range random.Intn(most + 1) {
		p.Edus = append(p.Edus, anyEdu(random))
	}
	return p
}

func TestWrittenIsReadAsItWas(t *testing.T) {
	random := rand.New(rand.NewSource(1))
	for range 1000 {
		checkWritten(t, "any", anyParcel(random, 100))
	}
	for n := range 101 {
		b, errno := parcel.Write(of(many(n)...))
		if errno != api.OK {
			t.Fatalf("%d EDUs: Write tells %d", n, errno)
		}
		if p, errno := parcel.Read(b); !parcel.Same(p, of(many(n)...)) || errno != api.OK {
			t.Errorf("%d EDUs are read as %+v, %d", n, p, errno)
		}
	}
}

func TestReadIsWrittenAsItWas(t *testing.T) {
	random, read := rand.New(rand.NewSource(2)), 0
	for range 50000 {
		b := []byte(modelBytes(anyParcel(random, 3)))
		for range 1 + random.Intn(2) {
			switch i := random.Intn(len(b)); random.Intn(3) {
			case 0:
				b[i] = byte(random.Intn(256))
			case 1:
				b = slices.Insert(b, i, byte(random.Intn(256)))
			case 2:
				b = slices.Delete(b, i, i+1)
			}
		}
		if !checkAny(t, string(b)) {
			continue
		}
		read++
		p, _ := parcel.Read(b)
		if again, errno := parcel.Write(p); !bytes.Equal(again, b) || errno != api.OK {
			t.Fatalf("Read(%.300q) = %+v, which is written %q, %d", b, p, again, errno)
		}
	}
	if read < 100 {
		t.Errorf("%d were read", read)
	}
}

// R4

func TestReadSharesNothing(t *testing.T) {
	for what, p := range right() {
		b := append(make([]byte, 0, 20000), modelBytes(p)...)
		all := b[:cap(b)]
		for i := len(b); i < len(all); i++ {
			all[i] = 'x'
		}
		was := bytes.Clone(all)
		one, _ := parcel.Read(b)
		two, _ := parcel.Read(b)
		if !bytes.Equal(all, was) {
			t.Errorf("%s: Read changed its bytes, or their spare room", what)
		}
		clear(all)
		clear(two.Edus[:cap(two.Edus)])
		if !same(one, p) {
			t.Errorf("%s: %+v shares memory with the bytes, or with what else was read of them", what, one)
		}
	}
}

func TestWriteSharesAndChangesNothing(t *testing.T) {
	for what, p := range right() {
		roomy := append(slices.Clone(p.Edus), many(3)...)
		p.Edus = roomy[:len(p.Edus)]
		was := slices.Clone(roomy)
		first, _ := parcel.Write(p)
		clear(first[:cap(first)])
		checkWritten(t, what, p)
		parcel.May(p)
		parcel.Same(p, p)
		parcel.Answer(p)
		if !slices.Equal(roomy, was) {
			t.Errorf("%s: its EDUs, or their spare room, were changed", what)
		}
	}
}

func TestAnswerIsNewMemory(t *testing.T) {
	p := of(typing())
	a := parcel.Answer(p)
	if unsafe.StringData(a.From) == unsafe.StringData(p.To) || unsafe.StringData(a.To) == unsafe.StringData(p.From) {
		t.Error("its texts are the parcel's own memory")
	}
}
