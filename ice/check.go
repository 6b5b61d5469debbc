package ice

import (
	"slices"
	"strings"

	"rostrum/api"
	"rostrum/stun"
)

// What a check and its reply are, and the attributes that matter in them.
const (
	classRequest = 0
	classSuccess = 2
	methodBind   = 1

	kindUser       = 6
	kindMAC        = 8
	kindMapped     = 32
	kindPriority   = 36
	kindUse        = 37
	kindControlled = 32809 // sent by a peer that takes itself to be the controlled side, as the agent is
	kindOptional   = 32768 // from here on a Type may be passed over by who doesn't know it

	prioritySize = 4
)

// Why a check is refused, as the reply tells it.
const (
	fine         = 0
	badRequest   = 400
	unauthorized = 401
	unknown      = 420
	roleConflict = 487
)

// Handle takes the check b, which came in from from at the moment now, and answers the reply to it.
func (a *Agent) Handle(b []byte, from api.Addr, now int64) ([]byte, api.Errno) {
	if a == nil {
		return nil, api.ErrArg
	}
	a.clock = max(a.clock, now)
	m, e := stun.Parse(b)
	if e != api.OK {
		return nil, api.ErrForm
	}
	if m.Class != classRequest || m.Method != methodBind {
		return nil, api.ErrArg
	}
	if code := a.doubt(m, b); code != fine {
		// Who has not shown the password shall get nothing that is signed by it.
		reply, _ := stun.Build(stun.Failure(m, code))
		return reply, api.ErrAuth
	}
	if code := fault(m); code != fine {
		return a.signed(stun.Failure(m, code)), api.ErrArg
	}
	if !a.checked(from) {
		return nil, api.ErrFull
	}
	if has(m, kindUse) {
		a.nominate(from)
	}
	return a.signed(success(m, from)), api.OK
}

// doubt tells why m, whose bytes are b, may not be from the peer, if it may not.
func (a *Agent) doubt(m stun.Message, b []byte) int {
	user, named := stun.Find(m, kindUser)
	if !named || !has(m, kindMAC) {
		return badRequest
	}
	if !strings.HasPrefix(string(user), a.name+":") {
		return unauthorized
	}
	if _, e := stun.Check(b, []byte(a.password)); e != api.OK {
		return unauthorized
	}
	return fine
}

// fault tells what is wrong in m, which is from the peer, if something is.
func fault(m stun.Message) int {
	if slices.ContainsFunc(m.Attrs, strange) {
		return unknown
	}
	if has(m, kindControlled) {
		return roleConflict
	}
	// Of a missing one the length is 0.
	if priority, _ := stun.Find(m, kindPriority); len(priority) != prioritySize {
		return badRequest
	}
	return fine
}

// strange tells whether a check with x can't be understood.
func strange(x stun.Attr) bool {
	switch x.Type {
	case kindUser, kindMAC, kindPriority, kindUse:
		return false
	}
	return x.Type < kindOptional
}

// success makes the message that tells from, where the check m came from.
func success(m stun.Message, from api.Addr) stun.Message {
	return stun.Message{
		Class:  classSuccess,
		Method: m.Method,
		ID:     m.ID,
		Attrs:  []stun.Attr{{Type: kindMapped, Value: stun.Mapped(from)}},
	}
}

// has tells whether m has an attribute of the Type kind.
func has(m stun.Message, kind uint16) bool {
	_, ok := stun.Find(m, kind)
	return ok
}
