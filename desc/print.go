package desc

import (
	"strconv"
	"strings"

	"rostrum/api"
	"rostrum/attr"
	"rostrum/sdp"
)

// Print tells d's text.
func Print(d api.Desc) (string, api.Errno) {
	if !Good(d) {
		return "", api.ErrArg
	}
	x := head(d)
	for _, m := range d.Media {
		p, e := attr.Write(m)
		if e != api.OK {
			return "", e
		}
		x.Parts = append(x.Parts, p)
	}
	return sdp.Print(x)
}

// head tells what stands in d's session ahead of the parts.
func head(d api.Desc) sdp.Session {
	x := sdp.Session{
		Origin: originBegin + strconv.FormatUint(d.ID, 10) + blank + strconv.FormatUint(d.Version, 10) + originEnd,
		Name:   sessionName,
		Time:   sessionTime,
	}
	if len(d.Bundle) > 0 {
		x.Attrs = append(x.Attrs, sdp.Attr{Name: nameGroup, Value: bundle + blank + strings.Join(d.Bundle, blank)})
	}
	x.Attrs = append(x.Attrs, sdp.Attr{Name: nameName, Value: d.Name}, sdp.Attr{Name: namePassword, Value: d.Password})
	return x
}
