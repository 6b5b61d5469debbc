package attr

import (
	"strconv"
	"strings"

	"rostrum/api"
	"rostrum/sdp"
)

// Write tells m's part.
func Write(m api.Media) (sdp.Part, api.Errno) {
	if !Good(m) {
		return sdp.Part{}, api.ErrArg
	}
	attrs := attributes(m)
	if len(attrs) > api.MostAttrs {
		return sdp.Part{}, api.ErrArg
	}
	return sdp.Part{Line: line(m), Conn: conn, Attrs: attrs}, api.OK
}

func line(m api.Media) string {
	s := kinds[m.Kind] + blank + strconv.Itoa(m.Port) + blank
	if m.Kind == api.Data {
		return s + channelBy
	}
	s += streamsBy
	for _, c := range m.Codecs {
		s += blank + strconv.Itoa(c.Type)
	}
	return s
}

// attributes tells the attributes of m, which is good, in their order.
func attributes(m api.Media) []sdp.Attr {
	list := []sdp.Attr{
		{Name: nameMid, Value: strings.Clone(m.Mid)},
		{Name: directions[m.Direction]},
	}
	if m.Kind == api.Data {
		return append(list, sdp.Attr{Name: nameSctpPort, Value: strconv.Itoa(m.SctpPort)})
	}
	for _, c := range m.Codecs {
		list = addCodec(list, c)
	}
	for _, x := range m.Exts {
		list = append(list, sdp.Attr{Name: nameExt, Value: strconv.Itoa(x.ID) + blank + x.URI})
	}
	list = addRids(list, m.Rids, m.Sending)
	for _, s := range m.Sources {
		list = append(list, sdp.Attr{Name: nameSource, Value: strconv.FormatUint(uint64(s), 10)})
	}
	for _, c := range m.Crypto {
		list = append(list, sdp.Attr{Name: nameCrypto, Value: strconv.Itoa(c.Tag) + blank + suite + blank + inline + writeKey(c.Key)})
	}
	return list
}

func addCodec(list []sdp.Attr, c api.Codec) []sdp.Attr {
	kind := strconv.Itoa(c.Type) + blank
	name := kind + c.Name + slash + strconv.Itoa(c.Clock)
	if c.Channels == 2 {
		name += slash + stereo
	}
	list = append(list, sdp.Attr{Name: nameCodec, Value: name})
	if c.Format != "" {
		list = append(list, sdp.Attr{Name: nameFormat, Value: kind + c.Format})
	}
	for _, f := range c.Feedback {
		list = append(list, sdp.Attr{Name: nameFeedback, Value: kind + f})
	}
	return list
}

func addRids(list []sdp.Attr, rids []string, out bool) []sdp.Attr {
	if len(rids) == 0 {
		return list
	}
	way := receiving
	if out {
		way = sending
	}
	for _, r := range rids {
		list = append(list, sdp.Attr{Name: nameRid, Value: r + blank + way})
	}
	return append(list, sdp.Attr{Name: nameSimulcast, Value: way + blank + strings.Join(rids, semicolon)})
}
