package answer_test

import (
	"reflect"
	"slices"
	"strings"
	"testing"
	"unsafe"

	"rostrum/answer"
	"rostrum/api"
)

// input is all that is handed in.
type input struct {
	Offer          api.Desc
	Config         api.Config
	Name, Password string
}

func (x input) run() (api.Desc, api.Errno) {
	return answer.Make(x.Offer, x.Config, id, x.Name, x.Password, key)
}

func inputs() []input {
	bad, twice := whole(), whole()
	bad.Media[3].Port = 5
	twice.Bundle = append(twice.Bundle, "d")
	list := []input{{bad, config(), name, password}, {twice, config(), name, password}, {whole(), config(), "", ""}, {Config: config()}}
	for _, offer := range all() {
		list = append(list, input{offer, config(), name, password}, input{offer, api.Config{}, name, password})
	}
	return list
}

// rooms are the lists of x, each with its spare room.
func rooms[T any](x *T) (list []reflect.Value) {
	eachList(x, func(_ string, v reflect.Value) { list = append(list, v.Slice(0, v.Cap())) })
	return list
}

// kept is what the rooms hold.
func kept(rooms []reflect.Value) (list []any) {
	for _, room := range rooms {
		list = append(list, reflect.AppendSlice(reflect.MakeSlice(room.Type(), 0, 0), room).Interface())
	}
	return list
}

func fill(room reflect.Value) {
	for i := range room.Len() {
		room.Index(i).Set(filled(room.Type().Elem()))
	}
}

// What is handed in is left as it is, its spare room too.
func TestLeavesWhatIsHandedIn(t *testing.T) {
	for _, want := range inputs() {
		x := copied(want, true)
		lists := rooms(&x)
		if len(lists) < 3 {
			t.Fatal("no lists")
		}
		was := kept(lists)
		x.run()
		if !reflect.DeepEqual(kept(lists), was) || !same(x, want) {
			t.Errorf("changed: %s", short(x))
		}
	}
}

// An answer stays as it is, whatever becomes of what was handed in, and answers that come later don't hang on it.
func TestKeepsNothing(t *testing.T) {
	for _, want := range inputs() {
		x := copied(want, true)
		got, e := x.run()
		first := copied(got, false)
		for _, room := range slices.Backward(rooms(&x)) {
			fill(room)
		}
		if !same(got, first) {
			t.Errorf("changed: %s", short(got))
		}
		if again, e2 := want.run(); e2 != e || !same(again, first) {
			t.Errorf("another answer: %s, %v", short(again), e2)
		}
	}
}

// No two lists of an answer share memory, nor do the lists of two answers, nor those and what was handed in: each list is spoilt alone, its spare room too.
func TestAnswersNewMemory(t *testing.T) {
	n := 0
	for _, x := range inputs() {
		x := copied(x, true)
		got, e := x.run()
		if e != api.OK {
			continue
		}
		other, _ := x.run()
		handed := rooms(&x)
		was, want := kept(handed), copied(got, false)
		for _, at := range paths(&want) {
			got, _ := x.run()
			eachList(&got, func(path string, list reflect.Value) {
				if path != at {
					return
				}
				n++
				saved := reflect.AppendSlice(reflect.MakeSlice(list.Type(), 0, 0), list)
				fill(list.Slice(0, list.Cap()))
				list.Set(saved)
			})
			if !same(got, want) || !same(other, want) || !reflect.DeepEqual(kept(handed), was) {
				t.Errorf("%s is shared: %s", at, short(got))
			}
		}
	}
	if n < 100 {
		t.Error("only", n)
	}
}

func paths[T any](x *T) (list []string) {
	eachList(x, func(path string, _ reflect.Value) { list = append(list, path) })
	return list
}

// span is where a text's bytes lie.
type span struct {
	text       string
	begin, end uintptr
}

func spans[T any](x *T) (list []span) {
	each(reflect.ValueOf(x).Elem(), "", func(_ string, v reflect.Value) {
		if v.Kind() == reflect.String && v.Len() > 0 {
			begin := uintptr(unsafe.Pointer(unsafe.StringData(v.String())))
			list = append(list, span{v.String(), begin, begin + uintptr(v.Len())})
		}
	})
	return list
}

func (a span) meets(b span) bool { return a.begin < b.end && b.begin < a.end }

// The answer's texts are new memory as its lists are.
func TestAnswersNewTexts(t *testing.T) {
	n := 0
	for _, x := range inputs() {
		each(reflect.ValueOf(&x).Elem(), "", func(_ string, v reflect.Value) {
			if v.Kind() == reflect.String {
				v.SetString(strings.Clone(v.String()))
			}
		})
		got, _ := x.run()
		handed := spans(&x)
		for i, s := range spans(&got) {
			n++
			if slices.ContainsFunc(handed, s.meets) || slices.ContainsFunc(spans(&got)[:i], s.meets) {
				t.Errorf("%s is shared", s.text)
			}
		}
	}
	if n < 100 {
		t.Error("only", n)
	}
}
