package route

import (
	"math/rand"
	"reflect"
	"slices"
	"testing"

	"stevedore/api"
)

// whole is a house whose lists are as long as their memory, so that their unused capacity is seen too.
func whole(h api.House) api.House {
	v := reflect.ValueOf(&h).Elem()
	for i := range v.NumField() {
		if f := v.Field(i); f.Kind() == reflect.Slice {
			f.Set(f.Slice3(0, f.Cap(), f.Cap()))
		}
	}
	return h
}

// copied is a house with lists of its own.
func copied(h api.House) api.House {
	v := reflect.ValueOf(&h).Elem()
	for i := range v.NumField() {
		if f := v.Field(i); f.Kind() == reflect.Slice && !f.IsNil() {
			f.Set(reflect.AppendSlice(reflect.MakeSlice(f.Type(), 0, f.Len()), f))
		}
	}
	return h
}

// roomy is a house whose lists have unused capacity, filled with marks that no call may touch.
func roomy(h api.House) api.House {
	v, m := reflect.ValueOf(&h).Elem(), reflect.ValueOf(houseOf(binsOf("mark/z/77/77")))
	for i := range v.NumField() {
		f := v.Field(i)
		if f.Kind() != reflect.Slice {
			continue
		}
		l := reflect.AppendSlice(reflect.MakeSlice(f.Type(), 0, f.Len()+3), f)
		for range 3 {
			l = reflect.Append(l, m.Field(i).Index(0))
		}
		f.Set(l.Slice(0, f.Len()))
	}
	return h
}

// roomyList is a list of words with unused capacity, filled with marks that no call may touch.
func roomyList(l []string) []string {
	marked := append(slices.Clone(l), "mark", "a", "")
	return marked[:len(l)]
}

// lists is lists of bins that a path is asked of.
func lists() [][]string {
	_, many := hall(300)
	return [][]string{nil, {"a"}, {"x"}, {"c", "a", "b"}, {"b", "a", "b", "", "x", "k"}, {"k", "j", "i", "h", "g", "e", "b", "a", "d", "f", "c"}, many}
}

// houses is houses with unused capacity, and one without any.
func houses() []api.House {
	many, _ := hall(300)
	return []api.House{roomy(houseOf(binsOf(shop))), roomy(houseOf(binsOf("b/z/2/1 a/z/2/9 a/z/2/0 /z/3/1 b/y/1/1"))), roomy(houseOf(many)), copied(houseOf(binsOf(shop))), roomy(api.House{}), {}}
}

// TestNothingElseChanges: R2, the house and the list that are passed stay as they are, their unused capacity too.
func TestNothingElseChanges(t *testing.T) {
	for _, h := range houses() {
		kept := copied(whole(h))
		for _, l := range lists() {
			passed := roomyList(l)
			all := slices.Clone(passed[:cap(passed)])
			got := Path(h, passed...)
			clear(got[:cap(got)])
			if !slices.Equal(passed[:cap(passed)], all) {
				t.Errorf("Path left the list %q, which was %q", passed[:cap(passed)], all)
			}
			if !reflect.DeepEqual(whole(h), kept) {
				t.Fatalf("Path of %q changed the house: %+v, want %+v", l, whole(h), kept)
			}
		}
	}
}

// TestNewMemory: R2, what is returned is not in the memory of what was passed, though it is the same list.
func TestNewMemory(t *testing.T) {
	h := houseOf(binsOf(shop))
	for _, want := range [][]string{{"a"}, {"b", "a"}, {"k", "j", "i", "h", "g", "e", "b", "a", "d", "f", "c"}} {
		passed := roomyList(want)
		if got := Path(h, passed...); !slices.Equal(got, want) || &got[0] == &passed[0] {
			t.Errorf("Path of %q is %q, in the memory of the list: %v", want, got, &got[0] == &passed[0])
		}
	}
}

// TestAnswersStay: R2 and R3, what was returned stays as it is, its unused capacity too, whatever is called behind it and becomes of what was passed; and the same call answers the same again.
func TestAnswersStay(t *testing.T) {
	r := rand.New(rand.NewSource(2))
	var got, want [][]string
	for range 400 {
		h := roomy(houseOf(anyBins(r, 20)))
		codes := anyCodes(r, 20)
		l := Path(h, codes...)
		path(t, "once more", h, codes, l)
		got, want = append(got, l[:cap(l)]), append(want, slices.Clone(l[:cap(l)]))
		clear(codes)
		clear(h.Bins[:cap(h.Bins)])
	}
	for i, l := range got {
		if !slices.Equal(l, want[i]) {
			t.Errorf("an answer is %q, and was %q", l, want[i])
		}
	}
}
