package rtcp

import (
	"rostrum/api"
	"rostrum/put"
)

// Build tells the list's bytes.
func Build(list []Packet) ([]byte, api.Errno) {
	if !good(list) {
		return nil, api.ErrArg
	}
	var b []byte
	for _, p := range list {
		b = putPacket(b, p)
	}
	// What a good list lays is bounded anyway, so that it may be laid ahead of the question.
	if len(b) > api.MostBytes {
		return nil, api.ErrArg
	}
	return b, api.OK
}

func putPacket(b []byte, p Packet) []byte {
	body := putBody(nil, p)
	b = append(b, version<<6|low(p), heads[p.Kind].second)
	b = put.U16(b, uint16(len(body)/wordSize))
	return append(b, body...)
}

// low tells the first byte's lower bits.
func low(p Packet) byte {
	if v := heads[p.Kind].low; v != counted {
		return v
	}
	// A good packet has either the one or the other.
	return byte(len(p.Reports) + len(p.Sources))
}

// putBody lays all behind the first word.
func putBody(b []byte, p Packet) []byte {
	if hasSender(p.Kind) {
		b = put.U32(b, p.Sender)
	}
	if hasMedia(p.Kind) {
		b = put.U32(b, p.Media)
	}
	switch p.Kind {
	case kindSender:
		b = put.U64(b, p.Ntp)
		b = put.U32(b, p.Rtp)
		b = put.U32(b, p.Packets)
		b = put.U32(b, p.Octets)
		return putReports(b, p.Reports)
	case kindReceiver:
		return putReports(b, p.Reports)
	case kindName:
		return putName(b, p.Name)
	case kindGoodbye:
		return putSources(b, p.Sources)
	case kindMissing:
		return putSeqs(b, p.Seqs)
	case kindArrivals:
		return putArrivals(b, p)
	case kindWanted:
		return putWanted(b, p.Wanted)
	}
	return b
}

func putReports(b []byte, reports []Report) []byte {
	for _, x := range reports {
		b = put.U32(b, x.Source)
		b = append(b, x.Lost)
		b = put.U24(b, x.Total)
		b = put.U32(b, x.High)
		b = put.U32(b, x.Jitter)
		b = put.U32(b, x.Last)
		b = put.U32(b, x.Delay)
	}
	return b
}

// putName lays at least one nought behind the name: it tells that no other field follows.
func putName(b []byte, name string) []byte {
	b = append(b, nameField, byte(len(name)))
	b = append(b, name...)
	return fill(append(b, 0))
}

func putSources(b []byte, sources []uint32) []byte {
	for _, v := range sources {
		b = put.U32(b, v)
	}
	return b
}

func putSeqs(b []byte, seqs []uint16) []byte {
	for first, bits := range pieces(seqs) {
		b = put.U16(b, first)
		b = put.U16(b, bits)
	}
	return b
}

func putArrivals(b []byte, p Packet) []byte {
	b = put.U16(b, p.Base)
	b = put.U16(b, uint16(len(p.Arrivals)))
	b = put.U24(b, p.Ref)
	b = append(b, p.Count)
	for mark := range marks(p.Arrivals) {
		b = put.U16(b, mark)
	}
	for _, a := range p.Arrivals {
		b = putDistance(b, a)
	}
	return fill(b)
}

func putDistance(b []byte, arrival int) []byte {
	switch sortOf(arrival) {
	case sortByte:
		return append(b, byte(arrival))
	case sortLong:
		return put.U16(b, uint16(arrival))
	}
	return b
}

func putWanted(b []byte, wanted []Want) []byte {
	for _, w := range wanted {
		b = put.U32(b, w.Source)
		b = append(b, w.Seq, 0, 0, 0)
	}
	return b
}

// fill lays noughts behind b up to whole words.
func fill(b []byte) []byte {
	return append(b, make([]byte, -len(b)&(wordSize-1))...)
}
