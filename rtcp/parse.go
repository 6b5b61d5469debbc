package rtcp

import (
	"bytes"

	"rostrum/api"
	"rostrum/wire"
)

// Parse tells the list whose bytes are b.
func Parse(b []byte) ([]Packet, api.Errno) {
	// More is not even copied into a reader: whoever sends it shall not cost us its length.
	if len(b) > api.MostBytes {
		return nil, api.ErrForm
	}
	list := readList(wire.NewReader(b))
	// The reading asks for little; b is right just if it is the bytes of the list that it seems to tell.
	own, e := Build(list)
	if e != api.OK || !bytes.Equal(own, b) {
		return nil, api.ErrForm
	}
	return list, api.OK
}

// readList reads what the bytes seem to tell, of no more packets than there may be.
func readList(r *wire.Reader) []Packet {
	var list []Packet
	for r.Left() > 0 && !r.Bad() && len(list) < mostPackets {
		low, second := r.U8()&lowBits, r.U8()
		body := wire.NewReader(r.Take(wordSize * int(r.U16())))
		list = append(list, readBody(body, kindOf(low, second), int(low)))
	}
	return list
}

// kindOf tells the Kind whose packets begin so, 0 if there is none.
func kindOf(low, second byte) int {
	for kind, h := range heads {
		if h.second == second && (h.low == low || h.low == counted) {
			return kind
		}
	}
	return 0
}

// readBody reads all behind the first word; n is how many Reports or Sources there are, if the Kind has such.
func readBody(r *wire.Reader, kind, n int) Packet {
	p := Packet{Kind: kind}
	if hasSender(kind) {
		p.Sender = r.U32()
	}
	if hasMedia(kind) {
		p.Media = r.U32()
	}
	switch kind {
	case kindSender:
		p.Ntp = uint64(r.U32())<<32 | uint64(r.U32())
		p.Rtp, p.Packets, p.Octets = r.U32(), r.U32(), r.U32()
		p.Reports = readReports(r, n)
	case kindReceiver:
		p.Reports = readReports(r, n)
	case kindName:
		p.Name = readName(r)
	case kindGoodbye:
		p.Sources = readSources(r, n)
	case kindMissing:
		for seq := range told(r) {
			p.Seqs = append(p.Seqs, seq)
		}
	case kindArrivals:
		p.Base = r.U16()
		arrivals := int(r.U16())
		p.Ref, p.Count = readU24(r), r.U8()
		p.Arrivals = readArrivals(r, arrivals)
	case kindWanted:
		p.Wanted = readWanted(r)
	}
	return p
}

func readU24(r *wire.Reader) uint32 {
	return uint32(r.U8())<<16 | uint32(r.U16())
}

func readReports(r *wire.Reader, n int) []Report {
	var reports []Report
	for range n {
		x := Report{Source: r.U32(), Lost: r.U8(), Total: readU24(r)}
		x.High, x.Jitter, x.Last, x.Delay = r.U32(), r.U32(), r.U32(), r.U32()
		reports = append(reports, x)
	}
	return reports
}

func readName(r *wire.Reader) string {
	r.U8() // what stands here is asked for when the name is laid again
	return string(r.Take(int(r.U8())))
}

func readSources(r *wire.Reader, n int) []uint32 {
	var sources []uint32
	for range n {
		sources = append(sources, r.U32())
	}
	return sources
}

// readArrivals goes through marks and distances side by side; it reads none where there are more than may be.
func readArrivals(r *wire.Reader, n int) []int {
	if n > mostArrivals {
		return nil
	}
	var arrivals []int
	sizes := wire.NewReader(r.Take(markSize * ((n + perMark - 1) / perMark)))
	for sort := range sorts(sizes, n) {
		arrivals = append(arrivals, readDistance(r, sort))
	}
	return arrivals
}

func readDistance(r *wire.Reader, sort uint16) int {
	switch sort {
	case sortByte:
		return int(r.U8())
	case sortLong:
		return int(int16(r.U16()))
	}
	return Lost
}

func readWanted(r *wire.Reader) []Want {
	var wanted []Want
	for r.Left() >= 2*wordSize {
		wanted = append(wanted, Want{Source: r.U32(), Seq: r.U8()})
		r.Take(wordSize - 1)
	}
	return wanted
}
