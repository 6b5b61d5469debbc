package judge_test

import (
	"reflect"
	"slices"
	"sync"
	"testing"

	"rostrum/api"
	"rostrum/judge"
)

// handed is what Check is given.
type handed struct{ Offer, Answer api.Desc }

// cases are what is judged 0 to 10, and what isn't good.
func cases() []handed {
	turned := of(video("c"), audio("a"), data("d"), audio("b"))
	own := taking(turned)
	slices.Reverse(turned.Bundle)
	list := []handed{{}, {row(api.MostParts+1, 0), taking(row(api.MostParts+1, 0))}, {turned, own}, {turned, turned}}
	for start := range kinds() {
		offer := row(api.MostParts, start)
		list = append(list, handed{offer, taking(offer)}, handed{offer, offer})
		own := taking(offer)
		refuse(&own, 3)
		list = append(list, handed{offer, own})
		for _, w := range ways() {
			for i := range kinds() {
				offer := row(api.MostParts, start)
				own := taking(offer)
				w.lays(&offer, &own, i)
				list = append(list, handed{offer, own})
			}
		}
	}
	return list
}

// rooms are the lists of x, each with its spare room.
func rooms(x *handed) (list []reflect.Value) {
	eachList(x, func(v reflect.Value) { list = append(list, v.Slice(0, v.Cap())) })
	return list
}

// kept is what the rooms hold.
func kept(rooms []reflect.Value) (list []any) {
	for _, room := range rooms {
		list = append(list, reflect.AppendSlice(reflect.MakeSlice(room.Type(), 0, 0), room).Interface())
	}
	return list
}

// What is handed in is left as it is, its spare room too.
func TestLeavesWhatIsHandedIn(t *testing.T) {
	var seen [11]int
	for _, want := range cases() {
		x := copied(want, true)
		lists := rooms(&x)
		was := kept(lists)
		seen[judge.Check(x.Offer, x.Answer)]++
		if !reflect.DeepEqual(kept(lists), was) || !reflect.DeepEqual(copied(x, false), copied(want, false)) {
			t.Errorf("changed: %s", short(x))
		}
	}
	if slices.Contains(seen[:], 0) {
		t.Error(seen)
	}
}

// What stands in spare room says nothing, and neither does what was asked ahead.
func TestHangsOnItsArgumentsAlone(t *testing.T) {
	list := cases()
	var want []int
	for _, x := range list {
		want = append(want, judge.Check(x.Offer, x.Answer))
	}
	for i, x := range slices.Backward(list) {
		if got := judge.Check(x.Offer, x.Answer); got != want[i] {
			t.Errorf("%d, not %d, the other way about", got, want[i])
		}
		y := copied(x, true)
		if got := judge.Check(y.Offer, y.Answer); got != want[i] {
			t.Errorf("%d, not %d, of a copy", got, want[i])
		}
		eachList(&y, func(v reflect.Value) {
			for at := v.Len(); at < v.Cap(); at++ {
				v.Slice(0, v.Cap()).Index(at).SetZero()
			}
		})
		if got := judge.Check(y.Offer, y.Answer); got != want[i] {
			t.Errorf("%d, not %d, with empty spare room", got, want[i])
		}
	}
}

// An offer and an answer that share their memory, and several that are judged at once.
func TestSharedMemory(t *testing.T) {
	list := cases()
	var want []int
	for _, x := range list {
		want = append(want, judge.Check(x.Offer, x.Answer))
	}
	var group sync.WaitGroup
	for range 4 {
		group.Go(func() {
			for i, x := range list {
				if got := judge.Check(x.Offer, x.Answer); got != want[i] {
					t.Errorf("%d, not %d", got, want[i])
				}
			}
		})
	}
	group.Wait()
}
