package jsep_test

import (
	"reflect"
	"strconv"
)

// eachList calls do for each list that x, which a pointer leads to, is made of, the outer ahead of the inner.
func eachList(x any, do func(path string, list reflect.Value)) {
	each(reflect.ValueOf(x).Elem(), "", func(path string, v reflect.Value) {
		if v.Kind() == reflect.Slice {
			do(path, v)
		}
	})
}

// each calls do for all that v is made of: fields, lists, their members.
func each(v reflect.Value, path string, do func(path string, v reflect.Value)) {
	do(path, v)
	switch v.Kind() {
	case reflect.Struct:
		for i := range v.NumField() {
			each(v.Field(i), path+"."+v.Type().Field(i).Name, do)
		}
	case reflect.Slice:
		for i := range v.Len() {
			each(v.Index(i), path+"["+strconv.Itoa(i)+"]", do)
		}
	}
}

// copied is x with lists of its own, an empty one where there is none, each with filled room behind it if spare is true.
func copied[T any](x T, spare bool) T {
	more := 0
	if spare {
		more = 3
	}
	eachList(&x, func(_ string, list reflect.Value) {
		n := list.Len()
		room := reflect.MakeSlice(list.Type(), n+more, n+more)
		for i := range more {
			room.Index(n + i).Set(filled(list.Type().Elem()))
		}
		reflect.Copy(room, list)
		list.Set(room.Slice(0, n))
	})
	return x
}

// filled is a thing of the type that isn't zero.
func filled(t reflect.Type) reflect.Value {
	v := reflect.New(t).Elem()
	each(v, "", func(_ string, v reflect.Value) {
		switch {
		case v.CanInt():
			v.SetInt(77)
		case v.CanUint():
			v.SetUint(77)
		case v.Kind() == reflect.String:
			v.SetString("spare")
		}
	})
	return v
}

// same tells whether a and b are alike; what no list and an empty one are made of is the same.
func same[T any](a, b T) bool { return reflect.DeepEqual(copied(a, false), copied(b, false)) }

// rooms are the lists of x, each with its spare room.
func rooms[T any](x *T) (list []reflect.Value) {
	eachList(x, func(_ string, v reflect.Value) { list = append(list, v.Slice(0, v.Cap())) })
	return list
}

// kept is what the rooms hold.
func kept(rooms []reflect.Value) (list []any) {
	for _, room := range rooms {
		list = append(list, reflect.AppendSlice(reflect.MakeSlice(room.Type(), 0, 0), room).Interface())
	}
	return list
}

// paths tell the lists of x.
func paths[T any](x T) (list []string) {
	eachList(&x, func(path string, _ reflect.Value) { list = append(list, path) })
	return list
}

// spoil fills the list of x that the path tells, and its spare room, with other things.
func spoil[T any](x *T, at string) {
	eachList(x, func(path string, list reflect.Value) {
		if path != at {
			return
		}
		room := list.Slice(0, list.Cap())
		for i := range room.Len() {
			room.Index(i).Set(filled(room.Type().Elem()))
		}
	})
}

// spoilAll does it with all of them, the inner ahead of the outer.
func spoilAll[T any](x *T) {
	list := paths(*x)
	for i := range list {
		spoil(x, list[len(list)-1-i])
	}
}
