package desc

import (
	"slices"
	"strconv"
	"strings"

	"rostrum/api"
	"rostrum/attr"
	"rostrum/sdp"
)

// Read tells the Desc whose text is s but for the attributes whose names aren't known; or the number of the first line that is wrong, 0 where no line alone is, and what is wrong.
func Read(s string) (api.Desc, int, api.Errno) {
	x, line, e := sdp.Parse(s)
	if e != api.OK {
		return api.Desc{}, line, e
	}
	d, e := typed(x)
	return d, 0, e
}

// typed tells the good Desc whose session is x without the attributes whose names aren't known.
// A Desc has one session alone: so what x seems to tell ahead of its parts is laid out again, and x is right just if that is the same. The readers below need not look for faults.
func typed(x sdp.Session) (api.Desc, api.Errno) {
	var d api.Desc
	readOrigin(&d, x.Origin)
	attrs := known(x.Attrs)
	for _, a := range attrs {
		readAttr(&d, a)
	}
	for _, p := range x.Parts {
		m, e := attr.Read(p)
		if e != api.OK {
			return api.Desc{}, e
		}
		d.Media = append(d.Media, m)
	}
	own := head(d)
	if !Good(d) || own.Origin != x.Origin || own.Name != x.Name || own.Time != x.Time || !slices.Equal(own.Attrs, attrs) {
		return api.Desc{}, api.ErrForm
	}
	return d, api.OK
}

// known tells the attributes whose names are known ahead of the parts.
func known(attrs []sdp.Attr) []sdp.Attr {
	var list []sdp.Attr
	for _, a := range attrs {
		switch a.Name {
		case nameGroup, nameName, namePassword:
			list = append(list, a)
		}
	}
	return list
}

func readOrigin(d *api.Desc, origin string) {
	id, rest, _ := strings.Cut(strings.TrimPrefix(origin, originBegin), blank)
	version, _, _ := strings.Cut(rest, blank)
	d.ID, d.Version = number(id), number(version)
}

func readAttr(d *api.Desc, a sdp.Attr) {
	switch a.Name {
	case nameGroup:
		d.Bundle = strings.Split(a.Value, blank)[1:] // the first is BUNDLE's place
	case nameName:
		d.Name = a.Value
	case namePassword:
		d.Password = a.Value
	}
}

// number tells the number whose text s is; of what is no number's text, any number.
func number(s string) uint64 {
	n, _ := strconv.ParseUint(s, 10, 64)
	return n
}
