package desc_test

import (
	"reflect"
	"testing"

	"rostrum/api"
	"rostrum/desc"
)

// like asks whether Same tells of a and b what want says, whichever comes first.
func like(t *testing.T, what string, a, b api.Desc, want bool) {
	t.Helper()
	if desc.Same(a, b) != want || desc.Same(b, a) != want {
		t.Errorf("%s: %s and %s: not %v", what, short(a), short(b), want)
	}
}

// big is whole, with two of everything that a list may have.
func big() api.Desc {
	d := whole()
	d.Media[1].Crypto = append(d.Media[1].Crypto, api.Crypto{Tag: 2})
	d.Media[2] = d.Media[1]
	d.Media[2].SctpPort = 5
	return copied(d, false)
}

func TestSameOfAlike(t *testing.T) {
	bad := big()
	bad.Name, bad.Media[0].Kind = "", -1
	for _, d := range append(all(), bad, big(), api.Desc{}, sized(api.MostText+1)) {
		like(t, "itself", d, d, true)
		like(t, "lists of its own", d, copied(d, false), true)
		like(t, "lists with room", d, copied(d, true), true)
		like(t, "lists with room both", copied(d, true), copied(d, false), true)
	}
}

// No list and an empty one are the same.
func TestSameOfNoLists(t *testing.T) {
	eachEmpty := func(d api.Desc, list func(reflect.Type) reflect.Value) api.Desc {
		d = copied(d, false)
		eachList(&d, func(_ string, v reflect.Value) {
			if v.Len() == 0 {
				v.Set(list(v.Type()))
			}
		})
		return d
	}
	for _, d := range append(all(), api.Desc{}) {
		none := eachEmpty(d, reflect.Zero)
		empty := eachEmpty(d, func(t reflect.Type) reflect.Value { return reflect.MakeSlice(t, 0, 5) })
		like(t, "no list and an empty one", none, empty, true)
		like(t, "no list and no list", none, none, true)
		if desc.Good(none) != desc.Good(empty) {
			t.Errorf("good or not: %s", short(d))
		}
		first, e := desc.Print(none)
		second, e2 := desc.Print(empty)
		if first != second || e != e2 {
			t.Errorf("%s, %v and %s, %v", short(first), e, short(second), e2)
		}
	}
}

// changes are what v may be changed to.
func changes(v reflect.Value) []reflect.Value {
	to := func(set func(reflect.Value)) reflect.Value {
		x := reflect.New(v.Type()).Elem()
		set(x)
		return x
	}
	switch {
	case v.CanInt():
		return []reflect.Value{to(func(x reflect.Value) { x.SetInt(v.Int() + 1) }), to(func(x reflect.Value) { x.SetInt(v.Int() ^ 1<<40) })}
	case v.CanUint():
		return []reflect.Value{to(func(x reflect.Value) { x.SetUint(v.Uint() ^ 1) }), to(func(x reflect.Value) { x.SetUint(v.Uint() ^ 1<<(v.Type().Bits()-1)) })}
	case v.Kind() == reflect.Bool:
		return []reflect.Value{to(func(x reflect.Value) { x.SetBool(!v.Bool()) })}
	case v.Kind() == reflect.String:
		return []reflect.Value{to(func(x reflect.Value) { x.SetString(v.String() + "x") }), to(func(x reflect.Value) { x.SetString("\x00" + v.String()) })}
	case v.Kind() == reflect.Slice:
		return listChanges(v)
	}
	return nil
}

// listChanges are v with one more at its end or beginning, with its first or last left out, and with two members that change places.
func listChanges(v reflect.Value) []reflect.Value {
	none := reflect.MakeSlice(v.Type(), 0, 0)
	one := reflect.Append(none, reflect.Zero(v.Type().Elem()))
	n := v.Len()
	list := []reflect.Value{reflect.AppendSlice(reflect.AppendSlice(none, v), one), reflect.AppendSlice(one, v)}
	if n > 0 {
		list = append(list, none, v.Slice(0, n-1), v.Slice(1, n))
	}
	if n > 1 {
		turned := reflect.AppendSlice(none, v.Slice(1, 2))
		turned = reflect.AppendSlice(turned, v.Slice(0, 1))
		list = append(list, reflect.AppendSlice(turned, v.Slice(2, n)))
	}
	return list
}

// Each thing that a Desc is made of is turned into another.
func TestSameOfUnlike(t *testing.T) {
	d, n := big(), 0
	each(reflect.ValueOf(&d).Elem(), "", func(path string, v reflect.Value) {
		was := reflect.New(v.Type()).Elem()
		was.Set(v)
		for _, x := range changes(v) {
			if reflect.DeepEqual(x.Interface(), was.Interface()) {
				continue
			}
			v.Set(x)
			like(t, path, d, big(), false)
			like(t, path+", both", d, copied(d, true), true)
			v.Set(was)
			n++
		}
	})
	like(t, "as it was", d, big(), true)
	if n < 300 {
		t.Error("only", n)
	}
	like(t, "nothing", api.Desc{}, big(), false)
}

// What stands in one field isn't what stands in another.
func TestSameOfTurned(t *testing.T) {
	d := big()
	d.ID, d.Version = d.Version, d.ID
	like(t, "ID and Version", d, big(), false)
	d = big()
	d.Name, d.Password = d.Password, d.Name
	like(t, "Name and Password", d, big(), false)
	d = big()
	d.Media[1].Rids, d.Media[1].Codecs[0].Feedback = d.Media[1].Codecs[0].Feedback, d.Media[1].Rids
	like(t, "Rids and Feedback", d, big(), false)
	d = big()
	d.Media[1].Codecs[0].Name, d.Media[1].Codecs[0].Format = "", d.Media[1].Codecs[0].Name
	like(t, "Name and Format", d, big(), false)
}
