package rtcp

import (
	"rostrum/api"
	"rostrum/wire"
)

// The bounds of what a list is made of.
const (
	mostPackets  = 8
	mostCounted  = lowBits // Reports, or Sources
	mostName     = 64
	most24       = 1<<24 - 1
	mostArrivals = 255
	leastMoment  = -1 << 15 // of an Arrival that isn't Lost
	mostMoment   = 1<<15 - 1
	mostWanted   = 8
)

// good tells whether the list is good, but for the number of its bytes.
func good(list []Packet) bool {
	if !within(len(list), 1, mostPackets) || !within(list[0].Kind, kindSender, kindReceiver) {
		return false
	}
	for _, p := range list {
		if !goodPacket(p) {
			return false
		}
	}
	return true
}

func goodPacket(p Packet) bool {
	if !within(p.Kind, 1, mostKind) || !empty(unnamed(p)) {
		return false
	}
	switch p.Kind {
	case kindSender, kindReceiver:
		return goodReports(p.Reports)
	case kindName:
		return within(len(p.Name), 1, mostName)
	case kindGoodbye:
		return within(len(p.Sources), 1, mostCounted)
	case kindMissing:
		return goodSeqs(p.Seqs)
	case kindArrivals:
		return p.Ref <= most24 && goodArrivals(p.Arrivals)
	case kindWanted:
		return within(len(p.Wanted), 1, mostWanted)
	}
	return true
}

func within(n, least, most int) bool {
	return n >= least && n <= most
}

// unnamed is p without the fields that its Kind names.
func unnamed(p Packet) Packet {
	if hasSender(p.Kind) {
		p.Sender = 0
	}
	if hasMedia(p.Kind) {
		p.Media = 0
	}
	switch p.Kind {
	case kindSender:
		p.Ntp, p.Rtp, p.Packets, p.Octets, p.Reports = 0, 0, 0, 0, nil
	case kindReceiver:
		p.Reports = nil
	case kindName:
		p.Name = ""
	case kindGoodbye:
		p.Sources = nil
	case kindMissing:
		p.Seqs = nil
	case kindArrivals:
		p.Base, p.Ref, p.Count, p.Arrivals = 0, 0, 0, nil
	case kindWanted:
		p.Wanted = nil
	}
	return p
}

// empty tells whether all of p's fields, but for its Kind, are zero.
func empty(p Packet) bool {
	numbers := p.Sender == 0 && p.Media == 0 && p.Ntp == 0 && p.Rtp == 0 && p.Packets == 0 && p.Octets == 0 &&
		p.Base == 0 && p.Ref == 0 && p.Count == 0
	lists := len(p.Reports) + len(p.Name) + len(p.Sources) + len(p.Seqs) + len(p.Arrivals) + len(p.Wanted)
	return numbers && lists == 0
}

func goodReports(reports []Report) bool {
	if len(reports) > mostCounted {
		return false
	}
	for _, x := range reports {
		if x.Total > most24 {
			return false
		}
	}
	return true
}

// goodSeqs asks for Seqs that rise, and stay within half of all numbers, so that none is taken for one ahead.
func goodSeqs(seqs []uint16) bool {
	if !within(len(seqs), 1, api.MostGaps) {
		return false
	}
	for i := 1; i < len(seqs); i++ {
		if !wire.Before16(seqs[i-1], seqs[i]) || !wire.Before16(seqs[0], seqs[i]) {
			return false
		}
	}
	return true
}

func goodArrivals(arrivals []int) bool {
	if !within(len(arrivals), 1, mostArrivals) {
		return false
	}
	for _, a := range arrivals {
		if a != Lost && !within(a, leastMoment, mostMoment) {
			return false
		}
	}
	return true
}
