package sdp

import (
	"strings"

	"rostrum/api"
	"rostrum/text"
)

// Parse tells the description whose text is s; or the number of the first line that can't stand where it stands, and what is wrong with it.
func Parse(s string) (Session, int, api.Errno) {
	if len(s) > api.MostText {
		return Session{}, 0, api.ErrLarge
	}
	var x Session
	var part *Part // the last one
	attrs := &x.Attrs
	at, fault := 1, api.OK
	rest := strings.Clone(s) // an answer shares no memory with what was handed in
lines:
	for ; at <= headLines || rest != ""; at++ {
		line, behind, ended := strings.Cut(rest, lineEnd)
		rest = behind
		kind, value := split(line)
		switch {
		case !ended:
			// Whatever it says, it is no line.
		case at <= headLines:
			if setHead(&x, at, kind, value) {
				continue lines
			}
		case kind == kindPart && text.Value(value):
			if len(x.Parts) == api.MostParts {
				fault = api.ErrLarge
				break lines
			}
			x.Parts = append(x.Parts, Part{Line: value})
			part = &x.Parts[len(x.Parts)-1]
			attrs = &part.Attrs
			continue lines
		case kind == kindConn && text.Value(value):
			if bare(part) {
				part.Conn = value
				continue lines
			}
		case kind == kindAttr:
			if a, ok := readAttr(value); ok {
				if len(*attrs) == api.MostAttrs {
					fault = api.ErrLarge
					break lines
				}
				*attrs = append(*attrs, a)
				continue lines
			}
		}
		fault = api.ErrForm
		break lines
	}
	if fault != api.OK {
		return Session{}, at, fault
	}
	return x, 0, api.OK
}

// split parts a line behind its letter and the equals sign.
func split(line string) (kind, value string) {
	n := min(len(line), len(kindAttr))
	return line[:n], line[n:]
}

// setHead lays the line of the number at into x; it tells whether it may stand there.
func setHead(x *Session, at int, kind, value string) bool {
	want, field := kindTime, &x.Time
	switch at {
	case 1:
		return kind == kindVersion && value == version
	case 2:
		want, field = kindOrigin, &x.Origin
	case 3:
		want, field = kindName, &x.Name
	}
	*field = value
	return kind == want && text.Value(value)
}

// bare tells whether there is a part, and nothing of it but its first line.
func bare(part *Part) bool {
	return part != nil && part.Conn == "" && len(part.Attrs) == 0
}

// readAttr tells the attribute that stands behind a=.
func readAttr(s string) (Attr, bool) {
	name, value, valued := strings.Cut(s, colon)
	if !text.Word(name) || valued && !text.Value(value) {
		return Attr{}, false
	}
	return Attr{Name: name, Value: value}, true
}
