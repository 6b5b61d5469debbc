package sdp

import (
	"strings"

	"rostrum/api"
	"rostrum/text"
)

// Print tells x's text.
func Print(x Session) (string, api.Errno) {
	if !valid(x) {
		return "", api.ErrArg
	}
	s := strings.Join(lines(x), lineEnd) + lineEnd
	if len(s) > api.MostText {
		return "", api.ErrArg
	}
	return s, api.OK
}

// valid tells whether all that stands in x may stand in lines, and isn't too much.
func valid(x Session) bool {
	if !text.Value(x.Origin) || !text.Value(x.Name) || !text.Value(x.Time) {
		return false
	}
	if !validAttrs(x.Attrs) || len(x.Parts) > api.MostParts {
		return false
	}
	for _, p := range x.Parts {
		if !text.Value(p.Line) || !perhaps(p.Conn) || !validAttrs(p.Attrs) {
			return false
		}
	}
	return true
}

func validAttrs(list []Attr) bool {
	if len(list) > api.MostAttrs {
		return false
	}
	for _, a := range list {
		if !text.Word(a.Name) || !perhaps(a.Value) {
			return false
		}
	}
	return true
}

// perhaps tells whether s is a value or the sign that there is none.
func perhaps(s string) bool {
	return s == "" || text.Value(s)
}

// lines tells the lines of x, which is valid, without their ends.
func lines(x Session) []string {
	list := []string{kindVersion + version, kindOrigin + x.Origin, kindName + x.Name, kindTime + x.Time}
	list = addAttrs(list, x.Attrs)
	for _, p := range x.Parts {
		list = append(list, kindPart+p.Line)
		if p.Conn != "" {
			list = append(list, kindConn+p.Conn)
		}
		list = addAttrs(list, p.Attrs)
	}
	return list
}

func addAttrs(list []string, attrs []Attr) []string {
	for _, a := range attrs {
		line := kindAttr + a.Name
		if a.Value != "" {
			line += colon + a.Value
		}
		list = append(list, line)
	}
	return list
}
