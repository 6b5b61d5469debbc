package srtp

import "rostrum/wire"

// The indexes' ends are further than packets can be handed in, so the tests lay windows there.

// LayMedia has c keep, both ways, that of the source's media the index alone was taken.
func (c *Context) LayMedia(source uint32, index int64) {
	lay(c.media, source, index)
}

// LayControl is LayMedia for control.
func (c *Context) LayControl(source uint32, index int64) {
	lay(c.control, source, index)
}

func lay(s side, source uint32, index int64) {
	for _, t := range []*wire.Table[uint32, window]{s.protected, s.unprotected} {
		t.Put(source, window{}.with(index))
	}
}
