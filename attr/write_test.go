package attr_test

import (
	"reflect"
	"slices"
	"strconv"
	"testing"

	"rostrum/api"
	"rostrum/attr"
	"rostrum/sdp"
)

// part is a part of attributes that are handed in as lines.
func part(line string, attrs ...sdp.Attr) sdp.Part {
	return sdp.Part{Line: line, Conn: "IN IP4 0.0.0.0", Attrs: attrs}
}

func TestWriteByHand(t *testing.T) {
	right(t, "video", video(), part("video 9 RTP/SAVPF 96 102 0",
		sdp.Attr{Name: "mid", Value: "v-1"},
		sdp.Attr{Name: "sendonly"},
		sdp.Attr{Name: "rtpmap", Value: "96 VP8/90000"},
		sdp.Attr{Name: "rtcp-fb", Value: "96 nack"},
		sdp.Attr{Name: "rtcp-fb", Value: "96 nack pli"},
		sdp.Attr{Name: "rtpmap", Value: "102 H264/90000"},
		sdp.Attr{Name: "fmtp", Value: "102 profile-level-id=42e01f; packetization-mode=1"},
		sdp.Attr{Name: "rtcp-fb", Value: "102 nack"},
		sdp.Attr{Name: "rtpmap", Value: "0 x/1/2"},
		sdp.Attr{Name: "fmtp", Value: "0 a/b:c"},
		sdp.Attr{Name: "extmap", Value: "3 urn:ietf:params:rtp-hdrext:sdes:mid"},
		sdp.Attr{Name: "extmap", Value: "14 x"},
		sdp.Attr{Name: "rid", Value: "q send"},
		sdp.Attr{Name: "rid", Value: "h send"},
		sdp.Attr{Name: "rid", Value: "f send"},
		sdp.Attr{Name: "simulcast", Value: "send q;h;f"},
		sdp.Attr{Name: "ssrc", Value: "4294967295"},
		sdp.Attr{Name: "ssrc", Value: "0"},
		sdp.Attr{Name: "ssrc", Value: "77"},
		sdp.Attr{Name: "crypto", Value: "1 AES_CM_128_HMAC_SHA1_80 inline:+9axjGdCHfjTrolkPxr10KuGYTwX8s2og145FO/K"},
	))
	right(t, "audio", audio(), part("audio 0 RTP/SAVPF 111",
		sdp.Attr{Name: "mid", Value: "a"},
		sdp.Attr{Name: "recvonly"},
		sdp.Attr{Name: "rtpmap", Value: "111 opus/48000/2"},
	))
	right(t, "data", data(), part("application 9 UDP/SCTP webrtc-datachannel",
		sdp.Attr{Name: "mid", Value: "d"},
		sdp.Attr{Name: "sendrecv"},
		sdp.Attr{Name: "sctp-port", Value: "5000"},
	))
	one := audio()
	one.Direction, one.Rids = 0, []string{"x"}
	right(t, "one rid", one, part("audio 0 RTP/SAVPF 111",
		sdp.Attr{Name: "mid", Value: "a"},
		sdp.Attr{Name: "inactive"},
		sdp.Attr{Name: "rtpmap", Value: "111 opus/48000/2"},
		sdp.Attr{Name: "rid", Value: "x recv"},
		sdp.Attr{Name: "simulcast", Value: "recv x"},
	))
}

// Each six bits of a key, all their values, stand where they must; laid lays it by the library's base64.
func TestWriteKeys(t *testing.T) {
	for bit := range 240 {
		for value := range 64 {
			m := video()
			k := &m.Crypto[0].Key
			*k = [30]byte{}
			for i := range 6 {
				at := (bit + i) % 240
				k[at/8] |= byte(value>>i&1) << (7 - at%8)
			}
			right(t, "key", m, laid(m))
		}
	}
}

func TestWriteOfTooMany(t *testing.T) {
	for n := api.MostAttrs - 20; n < api.MostAttrs+20; n++ {
		m := most(n)
		p := laid(m)
		if len(p.Attrs) != n || !attr.Good(m) {
			t.Fatal(n, len(p.Attrs))
		}
		if n <= api.MostAttrs {
			right(t, strconv.Itoa(n), m, p)
			continue
		}
		unwritten(t, strconv.Itoa(n), m)
		wrong(t, strconv.Itoa(n), p)
	}
	m := api.Media{Kind: api.Audio, Mid: "m", Codecs: numbered(api.MostCodecs, codec), Exts: numbered(api.MostExts, ext), Rids: numbered(api.MostRids, rid), Sources: numbered(api.MostSources, source), Crypto: numbered(1, crypto)}
	right(t, "all lists at their limits", m, laid(m))
	for i := range m.Codecs {
		m.Codecs[i].Format = "x"
	}
	unwritten(t, "with formats", m)
	for i := range m.Codecs {
		m.Codecs[i].Feedback = numbered(8, feedback)
	}
	unwritten(t, "as many as may be", m)
	if !attr.Good(m) {
		t.Error("as many as may be: not good")
	}
}

// roomy is the list with spare room behind it, which is filled; and all of it, to be looked at later.
func roomy[T any](list []T, spare T) (short, whole []T) {
	whole = append(slices.Clone(list), spare, spare, spare)
	return whole[:len(list)], whole
}

func TestWriteLeavesWhatIsHandedIn(t *testing.T) {
	for _, want := range []api.Media{video(), audio(), data(), most(api.MostAttrs), most(api.MostAttrs + 1), {Kind: 9}} {
		m := want
		var wholes []any
		m.Codecs = slices.Clone(want.Codecs)
		for i, c := range want.Codecs {
			short, whole := roomy(c.Feedback, "spare")
			m.Codecs[i].Feedback = short
			wholes = append(wholes, whole)
		}
		codecs, wholeCodecs := roomy(m.Codecs, api.Codec{Name: "spare"})
		exts, wholeExts := roomy(m.Exts, api.Ext{URI: "spare"})
		rids, wholeRids := roomy(m.Rids, "spare")
		sources, wholeSources := roomy(m.Sources, 12345)
		keys, wholeKeys := roomy(m.Crypto, api.Crypto{Tag: 5})
		m.Codecs, m.Exts, m.Rids, m.Sources, m.Crypto = codecs, exts, rids, sources, keys
		wholes = append(wholes, wholeCodecs, wholeExts, wholeRids, wholeSources, wholeKeys)
		was := copied(wholes)
		first, e := attr.Write(m)
		attr.Good(m)
		if !reflect.DeepEqual(was, wholes) || !same(m, want) {
			t.Errorf("changed: %s", short(wholes))
		}
		again, _ := attr.Write(m)
		spoil(first.Attrs, sdp.Attr{Name: "spoilt"})
		if e == api.OK && !samePart(again, laid(want)) || !reflect.DeepEqual(was, wholes) {
			t.Errorf("shared: %s", short(again))
		}
	}
}

// copied is a copy of lists of several types.
func copied(lists []any) []any {
	var all []any
	for _, list := range lists {
		v := reflect.ValueOf(list)
		all = append(all, reflect.AppendSlice(reflect.MakeSlice(v.Type(), 0, v.Len()), v).Interface())
	}
	return all
}

// spoil overwrites a list, its spare room too.
func spoil[T any](list []T, by T) {
	list = list[:cap(list)]
	for i := range list {
		list[i] = by
	}
}
