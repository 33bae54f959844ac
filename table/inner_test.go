package table

import "testing"

// From outside nobody can tell what stands in the spare room: so it is looked
// at itself.
func TestWhatWasDroppedIsNotKept(t *testing.T) {
	x, _ := New[string, []byte](4)
	for _, k := range []string{"c", "a", "d", "b"} {
		x.Put(k, []byte("abc"))
	}
	for _, k := range []string{"b", "d", "a", "c"} {
		x.Drop(k)
		for _, left := range x.keys[x.Len():cap(x.keys)] {
			if left != "" {
				t.Errorf("6.1: behind Drop(%q) the spare room keeps the key %q", k, left)
			}
		}
		for _, left := range x.vals[x.Len():cap(x.vals)] {
			if left != nil {
				t.Errorf("6.1: behind Drop(%q) the spare room keeps the value %q", k, left)
			}
		}
	}
}
