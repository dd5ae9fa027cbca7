// Package name is layer 1: see shared/doc/01-name.md.
package name

import (
	"strings"

	"concourse/api"
)

// The places in which a byte may stand, or not.
const (
	inPart   = iota
	inServer // anywhere in a server
	atEdge   // as a server's first or last byte
	inEvent  // behind an event's sign
	places
)

// stands tells, for each place, which bytes may stand there.
func stands() [places]func(c byte) bool {
	plain := func(c byte) bool {
		return 'a' <= c && c <= 'z' || '0' <= c && c <= '9'
	}
	with := func(more string) func(c byte) bool {
		return func(c byte) bool {
			return plain(c) || strings.IndexByte(more, c) >= 0
		}
	}
	dashed := with("-_")
	return [places]func(c byte) bool{
		inPart:   with(".-_"),
		inServer: with(".-"),
		atEdge:   plain,
		inEvent: func(c byte) bool {
			return dashed(c) || 'A' <= c && c <= 'Z'
		},
	}
}

// filled tells whether s has the length of a part of a name, and each of its bytes may stand in that place.
func filled(place int, s string) bool {
	if len(s) < 1 || len(s) > api.MaxName {
		return false
	}
	may := stands()[place]
	for i := range len(s) { // by bytes: a range over the text itself would go by runes
		if !may(s[i]) {
			return false
		}
	}
	return true
}

// signed tells whether a name of two halves may begin with a byte.
func signed(sign byte) bool { return sign == '@' || sign == '!' }

// split is the sign and the halves of a user or a room; the sign 0, which no name has, of anything else.
func split(s string) (sign byte, part, home string) {
	if s == "" || !signed(s[0]) {
		return 0, "", ""
	}
	// The first colon is the only one there can be: no byte of a half is one.
	part, home, _ = strings.Cut(s[1:], ":")
	if !filled(inPart, part) || !Server(home) {
		return 0, "", ""
	}
	return s[0], part, home
}

// Server tells whether a text is a server.
func Server(s string) bool {
	if !filled(inServer, s) {
		return false
	}
	may := stands()[atEdge]
	return may(s[0]) && may(s[len(s)-1])
}

// User tells whether a text is a user.
func User(s string) bool {
	sign, _, _ := split(s)
	return sign == '@'
}

// Room tells whether a text is a room.
func Room(s string) bool {
	sign, _, _ := split(s)
	return sign == '!'
}

// Event tells whether a text is an event.
func Event(s string) bool {
	id, found := strings.CutPrefix(s, "$")
	return found && filled(inEvent, id)
}

// Thread tells whether a text is a thread.
func Thread(s string) bool { return s == "" || s == "main" || Event(s) }

// Home is the server of a user or a room.
func Home(s string) string {
	_, _, home := split(s)
	return strings.Clone(home) // an answer shares no memory with what is handed in
}

// Part is the part of a user or a room.
func Part(s string) string {
	_, part, _ := split(s)
	return strings.Clone(part) // as in Home
}

// Make is the user, or the room, of a part and a server.
func Make(sign byte, part, server string) (string, api.Errno) {
	if !signed(sign) {
		return "", api.ErrArg
	}
	if !filled(inPart, part) || !Server(server) {
		return "", api.ErrForm
	}
	return string([]byte{sign}) + part + ":" + server, api.OK
}
