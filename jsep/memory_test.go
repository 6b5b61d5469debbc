package jsep_test

import (
	"reflect"
	"slices"
	"strings"
	"sync"
	"testing"
	"unsafe"

	"rostrum/api"
	"rostrum/jsep"
)

// input is all that a session is handed in a story.
type input struct {
	Remote   api.Desc
	Config   api.Config
	Name     string
	Password string
	Local    api.Desc
	Own      api.Desc
}

func inputs() []input {
	var list []input
	for first := range kinds() {
		offer, more := row(3, first), row(5, first)
		more.Version = 77
		offer.Media[2].Port = 0
		list = append(list, input{offer, config(), name, password, more, taking(more)})
		list = append(list, input{offer, api.Config{}, name, password, offer, taking(offer)})
	}
	return list
}

// bads are inputs of which something is refused.
func bads() []input {
	var list []input
	for _, x := range inputs() {
		badRemote, badLocal, badOwn, badName := x, x, x, x
		badRemote.Remote.Bundle = []string{"other", "none"}
		badLocal.Local = row(2, 1)
		badOwn.Own.Version++
		badName.Name = ""
		list = append(list, badRemote, badLocal, badOwn, badName, input{})
	}
	return list
}

// told is what a session told in a story.
type told struct {
	errs  []api.Errno
	descs []*api.Desc
	oks   []bool
}

// What happens in a story: behind a call something that was handed in, or that was told, is there to be turned.
type happens struct {
	handed func(what string, d *api.Desc)
	config func(c *api.Config)
	given  func(i int, d *api.Desc)
}

func nothing() happens {
	return happens{func(string, *api.Desc) {}, func(*api.Config) {}, func(int, *api.Desc) {}}
}

// story is an agreement from each side, and what is asked and refused between.
func story(x *input, h happens) *told {
	s, all := jsep.New(), &told{}
	note := func(errs ...api.Errno) { all.errs = append(all.errs, errs...) }
	give := func(d api.Desc) {
		all.descs = append(all.descs, &d)
		h.given(len(all.descs)-1, &d)
	}
	agreed := func() {
		for range 2 {
			offer, own, ok := s.Agreed()
			all.oks = append(all.oks, ok)
			give(offer)
			give(own)
		}
	}
	agreed()
	note(s.Remote(x.Remote))
	h.handed("Remote", &x.Remote)
	note(s.Remote(x.Remote), s.Local(x.Local))
	own, e := s.Answer(x.Config, id, x.Name, x.Password, key)
	h.config(&x.Config)
	note(e)
	give(own)
	agreed()
	note(s.Back(), s.Local(x.Local))
	h.handed("Local", &x.Local)
	note(s.Local(x.Local), s.Remote(x.Remote))
	agreed()
	note(s.Accept(x.Own))
	h.handed("Own", &x.Own)
	note(s.Accept(x.Own))
	agreed()
	for first := range kinds() {
		for _, n := range []int{3, 5} {
			note(s.Remote(row(n, first)), s.Back())
		}
	}
	s.Close()
	agreed()
	return all
}

// like asks whether two stories told the same, but for the one Desc that a test turned.
func (a *told) like(t *testing.T, what string, b *told, but int) {
	t.Helper()
	if !slices.Equal(a.errs, b.errs) || !slices.Equal(a.oks, b.oks) || len(a.descs) != len(b.descs) {
		t.Fatalf("%s: %v, %v, not %v, %v", what, a.errs, a.oks, b.errs, b.oks)
	}
	for i := range a.descs {
		if i != but && !same(*a.descs[i], *b.descs[i]) {
			t.Fatalf("%s: %d: %s, not %s", what, i, short(*a.descs[i]), short(*b.descs[i]))
		}
	}
}

// The stories tell what they should: agreements from both sides, and what is refused.
func TestStories(t *testing.T) {
	for _, x := range inputs() {
		all := story(&x, nothing())
		if want := []api.Errno{0, api.ErrState, api.ErrGlare, 0, api.ErrState, 0, api.ErrState, api.ErrGlare, 0, api.ErrState}; !slices.Equal(all.errs[:10], want) {
			t.Error(all.errs)
		}
		last := len(all.descs) - 1
		if !same(*all.descs[last], x.Own) || !same(*all.descs[last-1], x.Local) || !same(*all.descs[5], x.Remote) || all.descs[4].Name != x.Name {
			t.Error("other descriptions")
		}
	}
}

// What is handed in is left as it is, its spare room too, whatever the call answers.
func TestLeavesWhatIsHandedIn(t *testing.T) {
	for _, want := range slices.Concat(inputs(), bads()) {
		x := copied(want, true)
		lists := rooms(&x)
		was := kept(lists)
		story(&x, nothing())
		if !reflect.DeepEqual(kept(lists), was) || !same(x, want) {
			t.Errorf("changed: %s", short(x))
		}
	}
}

// Each call in each state with what is good and what isn't, its spare room filled.
func TestEachCallLeavesWhatIsHandedIn(t *testing.T) {
	for _, want := range slices.Concat(inputs(), bads()) {
		for state := range stateNames() {
			x := copied(want, true)
			lists := rooms(&x)
			was := kept(lists)
			for _, call := range []step{remotely(x.Remote), locally(x.Local), accepting(x.Own), answering(x.Config, id, x.Name, x.Password, key)} {
				did(t, slices.Concat(into(state, copied(want.Local, false)), []step{call})...)
				if !reflect.DeepEqual(kept(lists), was) {
					t.Errorf("changed: %v", call)
				}
			}
		}
	}
}

// What is handed in and turned behind the call, each list alone, turns nothing of the session nor of what it told.
func TestKeepsNothing(t *testing.T) {
	n := 0
	for _, x := range inputs() {
		clean := story(&x, nothing())
		for what, list := range map[string][]string{"Remote": paths(x.Remote), "Local": paths(x.Local), "Own": paths(x.Own)} {
			for _, at := range list {
				n++
				turned := copied(x, true)
				h := nothing()
				h.handed = func(which string, d *api.Desc) {
					if which == what {
						kept := copied(*d, true)
						spoil(d, at)
						*d = kept
					}
				}
				story(&turned, h).like(t, what+at, clean, -1)
			}
		}
		for _, at := range paths(x.Config) {
			turned := copied(x, true)
			h := nothing()
			h.config = func(c *api.Config) { spoil(c, at) }
			story(&turned, h).like(t, "Config"+at, clean, -1)
		}
	}
	if n < 300 {
		t.Error("only", n)
	}
}

// All that is handed in is turned, behind each call.
func TestKeepsNothingOfAll(t *testing.T) {
	for _, x := range slices.Concat(inputs(), bads()) {
		clean := story(&x, nothing())
		turned := copied(x, true)
		h := nothing()
		h.handed = func(_ string, d *api.Desc) {
			kept := copied(*d, true)
			spoilAll(d)
			*d = kept
		}
		h.config = func(c *api.Config) { spoilAll(c) }
		story(&turned, h).like(t, "all", clean, -1)
	}
}

// What is told and turned behind it, each list alone, its spare room too, turns neither the session, nor what was told
// before, nor what is told later, nor what was handed in.
func TestAnswersNewMemory(t *testing.T) {
	n := 0
	for _, x := range inputs() {
		clean := story(&x, nothing())
		for i, d := range clean.descs {
			for _, at := range paths(*d) {
				n++
				turned := copied(x, true)
				lists := rooms(&turned)
				was := kept(lists)
				h := nothing()
				h.given = func(j int, d *api.Desc) {
					if i == j {
						spoil(d, at)
					}
				}
				story(&turned, h).like(t, at, clean, i)
				if !reflect.DeepEqual(kept(lists), was) {
					t.Error("handed in and changed:", at)
				}
			}
		}
	}
	if n < 1000 {
		t.Error("only", n)
	}
}

// Within one description no list shares memory with another: each is spoilt alone, and the others stay.
func TestListsOfItsOwn(t *testing.T) {
	for _, x := range inputs() {
		clean := story(&x, nothing())
		for i, want := range clean.descs {
			for _, at := range paths(*want) {
				got := *story(&x, nothing()).descs[i]
				eachList(&got, func(path string, list reflect.Value) {
					if path != at {
						return
					}
					saved := reflect.AppendSlice(reflect.MakeSlice(list.Type(), 0, 0), list)
					spoil(&got, at)
					list.Set(saved)
				})
				if !same(got, *want) {
					t.Fatalf("%s is shared: %s", at, short(got))
				}
			}
		}
	}
}

// What is told is appended to: nothing else is turned.
func TestAppended(t *testing.T) {
	for _, x := range inputs() {
		clean := story(&x, nothing())
		h := nothing()
		h.given = func(_ int, d *api.Desc) {
			eachList(d, func(_ string, list reflect.Value) {
				_ = reflect.Append(list, filled(list.Type().Elem()), filled(list.Type().Elem()), filled(list.Type().Elem()))
			})
		}
		story(&x, h).like(t, "appended", clean, -1)
	}
}

// span is where a list or a text lies.
type span struct {
	path       string
	begin, end uintptr
}

func spans(what string, x any) (list []span) {
	each(reflect.ValueOf(x).Elem(), what, func(path string, v reflect.Value) {
		switch {
		case v.Kind() == reflect.String && v.Len() > 0:
			begin := uintptr(unsafe.Pointer(unsafe.StringData(v.String())))
			list = append(list, span{path, begin, begin + uintptr(v.Len())})
		case v.Kind() == reflect.Slice && v.Cap() > 0:
			list = append(list, span{path, v.Pointer(), v.Pointer() + uintptr(v.Cap())*v.Type().Elem().Size()})
		}
	})
	return list
}

// All lists and texts that are told lie apart, and apart from those that are handed in.
func TestMemoryOfItsOwn(t *testing.T) {
	for _, x := range inputs() {
		x := copied(x, true)
		each(reflect.ValueOf(&x).Elem(), "", func(_ string, v reflect.Value) {
			if v.Kind() == reflect.String {
				v.SetString(strings.Clone(v.String()))
			}
		})
		all := story(&x, nothing())
		list := spans("handed in", &x)
		for _, d := range all.descs {
			list = append(list, spans("told", d)...)
		}
		slices.SortFunc(list, func(a, b span) int { return int(a.begin) - int(b.begin) })
		for i, next := range list[1:] {
			if list[i].end > next.begin {
				t.Errorf("%s and %s share memory", list[i].path, next.path)
			}
		}
		if len(list) < 500 {
			t.Error("only", len(list))
		}
	}
}

// Sessions that are handed the same at once are sessions each for itself.
func TestSessionsAtOnce(t *testing.T) {
	list := slices.Concat(inputs(), bads())
	var want []*told
	for _, x := range list {
		want = append(want, story(&x, nothing()))
	}
	var group sync.WaitGroup
	for range 4 {
		group.Go(func() {
			for i, x := range list {
				if got := story(&x, nothing()); !slices.Equal(got.errs, want[i].errs) || !reflect.DeepEqual(got.descs, want[i].descs) {
					t.Error("another story of", short(x))
				}
			}
		})
	}
	group.Wait()
}
