package desc_test

import (
	"math"
	"reflect"
	"strconv"
	"strings"
	"testing"

	"rostrum/api"
	"rostrum/desc"
)

const (
	example    = "v=0\r\no=- 1 1 IN IP4 127.0.0.1\r\ns=-\r\nt=0 0\r\na=ice-ufrag:abcd\r\na=ice-pwd:0123456789012345678901\r\n"
	wholesText = "v=0\r\no=- 18446744073709551615 12 IN IP4 127.0.0.1\r\ns=-\r\nt=0 0\r\na=group:BUNDLE d v-1 a\r\na=ice-ufrag:aB-4\r\na=ice-pwd:0123456789_abcdefghiJK\r\n" +
		"m=audio 0 RTP/SAVPF 111\r\nc=IN IP4 0.0.0.0\r\na=mid:a\r\na=recvonly\r\na=rtpmap:111 opus/48000/2\r\n" +
		"m=video 9 RTP/SAVPF 96 102\r\nc=IN IP4 0.0.0.0\r\na=mid:v-1\r\na=sendonly\r\n" +
		"a=rtpmap:96 VP8/90000\r\na=rtcp-fb:96 nack\r\na=rtcp-fb:96 nack pli\r\na=rtpmap:102 H264/90000\r\na=fmtp:102 profile-level-id=42e01f\r\na=rtcp-fb:102 nack\r\n" +
		"a=extmap:3 urn:ietf:params:rtp-hdrext:sdes:mid\r\na=extmap:14 x\r\na=rid:q send\r\na=rid:h send\r\na=simulcast:send q;h\r\na=ssrc:4294967295\r\na=ssrc:77\r\n" +
		"a=crypto:1 AES_CM_128_HMAC_SHA1_80 inline:AAAAAAAAAMgAAAAAAAAAAAAAAAAAAAAAAAAAAAAB\r\n" +
		"m=application 9 UDP/SCTP webrtc-datachannel\r\nc=IN IP4 0.0.0.0\r\na=mid:d\r\na=sendrecv\r\na=sctp-port:5000\r\n" +
		"m=audio 0 RTP/SAVPF 111\r\nc=IN IP4 0.0.0.0\r\na=mid:b\r\na=recvonly\r\na=rtpmap:111 opus/48000/2\r\n"
)

func TestPrintByHand(t *testing.T) {
	right(t, "the chapter's", api.Desc{ID: 1, Version: 1, Name: "abcd", Password: "0123456789012345678901"}, example)
	right(t, "whole", whole(), wholesText)
	right(t, "a channel", channel(), "v=0\r\no=- 7 3 IN IP4 127.0.0.1\r\ns=-\r\nt=0 0\r\na=group:BUNDLE d\r\na=ice-ufrag:aB-4\r\na=ice-pwd:0123456789_abcdefghiJK\r\nm=application 9 UDP/SCTP webrtc-datachannel\r\nc=IN IP4 0.0.0.0\r\na=mid:d\r\na=sendrecv\r\na=sctp-port:5000\r\n")
	d := channel()
	d.Bundle = nil
	right(t, "no Bundle", d, "v=0\r\no=- 7 3 IN IP4 127.0.0.1\r\ns=-\r\nt=0 0\r\na=ice-ufrag:aB-4\r\na=ice-pwd:0123456789_abcdefghiJK\r\nm=application 9 UDP/SCTP webrtc-datachannel\r\nc=IN IP4 0.0.0.0\r\na=mid:d\r\na=sendrecv\r\na=sctp-port:5000\r\n")
}

func TestPrintNumbers(t *testing.T) {
	list := []uint64{0, 1, 9, 10, 12, math.MaxUint32, math.MaxUint32 + 1, math.MaxInt64, math.MaxInt64 + 1, math.MaxUint64 - 1, math.MaxUint64}
	for bit := range 64 {
		list = append(list, 1<<bit)
	}
	for _, id := range list {
		for _, version := range list {
			d := channel()
			d.ID, d.Version = id, version
			asks(t, "numbers", d, true)
		}
	}
}

// A good Desc one of whose Media has too many attributes.
func TestPrintOfUnwritten(t *testing.T) {
	for n := range api.MostParts {
		for i := range n + 1 {
			for count := api.MostAttrs - 2; count < api.MostAttrs+3; count++ {
				d := of(n, data)
				mid := "crowded"
				d.Media = append(d.Media[:i:i], append([]api.Media{crowded(mid, count)}, d.Media[i:]...)...)
				d.Bundle = append(d.Bundle, mid)
				what := strconv.Itoa(count) + " attributes at " + strconv.Itoa(i)
				if !desc.Good(d) {
					t.Errorf("%s: not good", what)
				}
				if count <= api.MostAttrs {
					right(t, what, d, laid(d))
					continue
				}
				unprinted(t, what, d)
			}
		}
	}
}

func TestPrintOfLongTexts(t *testing.T) {
	for n := api.MostText - 40; n <= api.MostText+40; n++ {
		d := sized(n)
		s := laid(d)
		if len(s) != n || !desc.Good(d) {
			t.Fatal(n, len(s), desc.Good(d))
		}
		if n <= api.MostText {
			right(t, strconv.Itoa(n), d, s)
			continue
		}
		unprinted(t, strconv.Itoa(n), d)
		refused(t, strconv.Itoa(n), s, 0, api.ErrLarge)
	}
	long := of(api.MostParts, func(mid string) api.Media {
		m := crowded(mid, api.MostAttrs)
		for i := range m.Codecs {
			for j := range m.Codecs[i].Feedback {
				m.Codecs[i].Feedback[j] = strings.Repeat("f", 100)
			}
		}
		return m
	})
	if !desc.Good(long) {
		t.Error("far too long: not good")
	}
	unprinted(t, "far too long", long)
}

// What is handed in is left as it is, its spare room too.
func TestLeavesWhatIsHandedIn(t *testing.T) {
	bad, twice := whole(), whole()
	bad.Media[3].Port = 5
	twice.Bundle = append(twice.Bundle, "d")
	for _, want := range append(all(), bad, twice, sized(api.MostText), sized(api.MostText+1)) {
		d := copied(want, true)
		var wholes, was []reflect.Value
		eachList(&d, func(_ string, list reflect.Value) {
			if list.Cap() != list.Len()+3 {
				t.Fatal("no spare room")
			}
			room := list.Slice(0, list.Cap())
			wholes = append(wholes, room)
			was = append(was, reflect.AppendSlice(reflect.MakeSlice(list.Type(), 0, 0), room))
		})
		first, e := desc.Print(d)
		again, e2 := desc.Print(d)
		if first != again || e != e2 {
			t.Error("two answers")
		}
		desc.Good(d)
		if !desc.Same(d, want) || !desc.Same(d, d) || desc.Same(d, api.Desc{}) {
			t.Error("not the same")
		}
		for i := range wholes {
			if !reflect.DeepEqual(wholes[i].Interface(), was[i].Interface()) {
				t.Errorf("changed: %s", short(wholes[i].Interface()))
			}
		}
		if !same(d, want) {
			t.Errorf("changed: %s", short(d))
		}
	}
}
