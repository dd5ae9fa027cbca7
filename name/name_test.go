package name_test

import (
	"regexp"
	"strings"
	"testing"

	"concourse/api"
	"concourse/name"
)

// kinds is what a text is: its part and home too, if it has them.
type kinds struct {
	server, user, room, event, thread bool
	part, home                        string
}

func told(s string) kinds {
	return kinds{name.Server(s), name.User(s), name.Room(s), name.Event(s), name.Thread(s), name.Part(s), name.Home(s)}
}

const (
	partForm   = `[a-z0-9._-]{1,16}`
	serverForm = `[a-z0-9](?:[a-z0-9.-]{0,14}[a-z0-9])?`
)

// The chapter's words once more, told in another way than the program tells them.
var (
	serverOnly = regexp.MustCompile(`\A` + serverForm + `\z`)
	partOnly   = regexp.MustCompile(`\A` + partForm + `\z`)
	halves     = regexp.MustCompile(`\A([@!])(` + partForm + `):(` + serverForm + `)\z`)
	eventOnly  = regexp.MustCompile(`\A\$[a-zA-Z0-9_-]{1,16}\z`)
)

func model(s string) kinds {
	k := kinds{server: serverOnly.MatchString(s), event: eventOnly.MatchString(s)}
	k.thread = s == "" || s == "main" || k.event
	if m := halves.FindStringSubmatch(s); m != nil {
		k.user, k.room, k.part, k.home = m[1] == "@", m[1] == "!", m[2], m[3]
	}
	return k
}

func check(t *testing.T, s string) {
	t.Helper()
	if got, want := told(s), model(s); got != want {
		t.Errorf("%q: told %#v, want %#v", s, got, want)
	}
}

// eachText tells every text of these bytes that is at most so long.
func eachText(alphabet string, most int, tell func(s string)) {
	var grow func(s string)
	grow = func(s string) {
		tell(s)
		if len(s) == most {
			return
		}
		for i := range len(alphabet) {
			grow(s + alphabet[i:i+1])
		}
	}
	grow("")
}

func long(n int) string { return strings.Repeat("a", n) }

// P1.1

func TestServer(t *testing.T) {
	for s, want := range map[string]bool{
		"": false, "a": true, "z": true, "0": true, "9": true, "a.b": true, "a-b": true, "a..--b": true, "main": true, "s1": true,
		".": false, "-": false, ".a": false, "-a": false, "a.": false, "a-": false, ".a.": false,
		"A": false, "aAb": false, "a_b": false, "a b": false, "a:b": false, "é": false, "a\x00": false, "a\n": false,
		long(16): true, long(17): false, long(15) + ".": false, "-" + long(15): false, long(14) + ".a": true, "@a:b": false, "$a": false,
	} {
		if name.Server(s) != want {
			t.Errorf("Server(%q) is not %v", s, want)
		}
	}
}

func TestUserAndRoom(t *testing.T) {
	for tail, want := range map[string]bool{
		"ann:a.b": true, "a:b": true, "9:9": true, "._-:x": true, ".:x": true, "-:x": true, "_:x": true,
		"": false, ":": false, "a": false, "a:": false, ":a": false, "a:b:c": false, "a::b": false, "a:b:": false, ":a:b": false,
		"r:-a": false, "r:.a": false, "r:a-": false, "r:a.": false, "r:a_b": false, "A:b": false, "a:B": false, "a@b:c": false, "@a:b": false, "!a:b": false,
		long(16) + ":" + long(16): true, long(17) + ":a": false, "a:" + long(17): false, "a:b\n": false, " a:b": false, "é:b": false,
	} {
		if name.User("@"+tail) != want || name.Room("!"+tail) != want {
			t.Errorf("User(%q), Room(%q) are not both %v", "@"+tail, "!"+tail, want)
		}
		if name.User("!"+tail) || name.Room("@"+tail) {
			t.Errorf("%q is taken for a name of the other sign", tail)
		}
	}
	for _, sign := range []string{"", "$", "#", "@@", "!!", "@!", " @", "\x00"} {
		if s := sign + "ann:a.b"; name.User(s) || name.Room(s) {
			t.Errorf("%q is taken for a user or a room", s)
		}
	}
}

func TestEvent(t *testing.T) {
	for s, want := range map[string]bool{
		"": false, "$": false, "$a": true, "$z": true, "$A": true, "$Z": true, "$0": true, "$9": true, "$-": true, "$_": true, "$aZ-_9": true,
		"$a.b": false, "$a:b": false, "$$a": false, "$a$": false, "$a b": false, "$é": false, "$a\n": false, "$a\x80": false,
		"a": false, "main": false, "@a:b": false, "$" + long(16): true, "$" + long(17): false,
	} {
		if name.Event(s) != want {
			t.Errorf("Event(%q) is not %v", s, want)
		}
	}
}

func TestThread(t *testing.T) {
	for s, want := range map[string]bool{
		"": true, "main": true, "$a": true, "$main": true, "$" + long(16): true,
		"$": false, "Main": false, "main ": false, "mai": false, "mainn": false, "a": false, " ": false, "@a:b": false, "$a.b": false, "$" + long(17): false,
	} {
		if name.Thread(s) != want {
			t.Errorf("Thread(%q) is not %v", s, want)
		}
	}
}

func TestHomeAndPart(t *testing.T) {
	for s, want := range map[string][2]string{
		"@ann:a.b": {"ann", "a.b"}, "!ann:a.b": {"ann", "a.b"}, "!._-:x": {"._-", "x"},
		"@" + long(16) + ":b" + long(15): {long(16), "b" + long(15)},
		"":                               {}, "@": {}, "ann:a.b": {}, "$ann:a.b": {}, "$a": {}, "main": {}, "a.b": {}, "@a": {}, "@a:": {}, "@:b": {},
		"!r:-a": {}, "@A:b": {}, "@a:b_c": {}, "@a:b:c": {}, "@" + long(17) + ":b": {}, "@a:" + long(17): {},
	} {
		if name.Part(s) != want[0] || name.Home(s) != want[1] {
			t.Errorf("%q: the part %q, the home %q, want %q", s, name.Part(s), name.Home(s), want)
		}
	}
}

func TestEveryByteInEveryPlace(t *testing.T) {
	for _, s := range []string{"a", "aaa", "@aaa:aaa", "!aaa:aaa", "@a:a", "$aaa", "main", long(16), "@" + long(16) + ":" + long(16), "$" + long(16)} {
		for i := range len(s) {
			for c := range 256 {
				b := []byte(s)
				b[i] = byte(c)
				check(t, string(b))
			}
		}
	}
}

func TestEveryLength(t *testing.T) {
	for n := range 40 {
		for _, sign := range []string{"", "@", "!", "$"} {
			check(t, sign+long(n))
			check(t, sign+long(n)+":a")
			check(t, sign+"a:"+long(n))
			check(t, sign+long(n)+":"+long(n))
		}
	}
}

func TestEveryShortText(t *testing.T) {
	eachText("@!$:aZ0.-_", 5, func(s string) { check(t, s) })
}

// P1.2

func TestMake(t *testing.T) {
	for _, x := range []struct {
		sign         byte
		part, server string
		want         string
		errno        api.Errno
	}{
		{'@', "ann", "a.b", "@ann:a.b", api.OK},
		{'!', "ann", "a.b", "!ann:a.b", api.OK},
		{'!', "._-", "x-9", "!._-:x-9", api.OK},
		{'@', long(16), long(16), "@" + long(16) + ":" + long(16), api.OK},
		{'@', "", "b", "", api.ErrForm},
		{'@', "a", "", "", api.ErrForm},
		{'!', "", "", "", api.ErrForm},
		{'@', long(17), "b", "", api.ErrForm},
		{'@', "a", long(17), "", api.ErrForm},
		{'@', "A", "b", "", api.ErrForm},
		{'@', "a:b", "c", "", api.ErrForm},
		{'@', "a", "b:c", "", api.ErrForm},
		{'@', "@a", "b", "", api.ErrForm},
		{'!', "r", "-a", "", api.ErrForm},
		{'!', "r", "a.", "", api.ErrForm},
		{'!', "r", "a_b", "", api.ErrForm},
		{'$', "ann", "a.b", "", api.ErrArg},
		{0, "ann", "a.b", "", api.ErrArg},
		{'$', "", "a.b", "", api.ErrArg}, // of two errors the sign's is told
		{'$', "ann", "-", "", api.ErrArg},
		{0xff, "A", "B", "", api.ErrArg},
	} {
		if s, errno := name.Make(x.sign, x.part, x.server); s != x.want || errno != x.errno {
			t.Errorf("Make(%q, %q, %q) = %q, %d; want %q, %d", x.sign, x.part, x.server, s, errno, x.want, x.errno)
		}
	}
}

func TestMakeOfEverySign(t *testing.T) {
	for c := range 256 {
		sign := byte(c)
		want, errno := "", api.ErrArg
		if sign == '@' || sign == '!' {
			want, errno = string([]byte{sign})+"a:b", api.OK
		}
		if s, e := name.Make(sign, "a", "b"); s != want || e != errno {
			t.Errorf("Make(%q, ..) = %q, %d; want %q, %d", sign, s, e, want, errno)
		}
	}
}

func TestMakeOfShortTexts(t *testing.T) {
	eachText(":aZ0.-_@", 3, func(s string) {
		_, errno := name.Make('@', s, "b")
		if (errno == api.OK) != partOnly.MatchString(s) || errno != api.OK && errno != api.ErrForm {
			t.Errorf("Make of the part %q tells %d", s, errno)
		}
		_, errno = name.Make('!', "a", s)
		if (errno == api.OK) != serverOnly.MatchString(s) || errno != api.OK && errno != api.ErrForm {
			t.Errorf("Make of the server %q tells %d", s, errno)
		}
	})
}

// P1.3

func TestMadeOfItsHalves(t *testing.T) {
	names := 0
	eachText("@!:a0.-_", 6, func(s string) {
		if !name.User(s) && !name.Room(s) {
			return
		}
		names++
		if again, errno := name.Make(s[0], name.Part(s), name.Home(s)); again != s || errno != api.OK {
			t.Errorf("%q is made again as %q, %d", s, again, errno)
		}
	})
	if names == 0 {
		t.Error("no text was a name")
	}
}

func TestHalvesOfWhatIsMade(t *testing.T) {
	made := map[string]bool{}
	parts := []string{"a", "z9", ".", "-", "_", "._-", "a.b", long(16), strings.Repeat("-", 16)}
	servers := []string{"a", "0", "a.b", "a-b", "a--b", "b.a", long(16), "a" + strings.Repeat(".", 14) + "a"}
	for _, sign := range []byte("@!") {
		for _, part := range parts {
			for _, server := range servers {
				s, errno := name.Make(sign, part, server)
				if errno != api.OK || name.User(s) != (sign == '@') || name.Room(s) != (sign == '!') || name.Part(s) != part || name.Home(s) != server {
					t.Errorf("Make(%q, %q, %q) = %q, %d: the part %q, the home %q", sign, part, server, s, errno, name.Part(s), name.Home(s))
				}
				if made[s] {
					t.Errorf("%q is made of two pairs of halves", s)
				}
				made[s] = true
			}
		}
	}
}
