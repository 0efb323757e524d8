package ring

import (
	"testing"

	"witan/api"
	"witan/sign"
)

// Way "map": what was verified is kept, once each; what wasn't right is not.
func TestKept(t *testing.T) {
	seeds := []api.Hash{{1}, {2}, {3}, {4}}
	var keys []api.Hash
	for _, s := range seeds {
		keys = append(keys, sign.Public(s))
	}
	r, err := New(keys...)
	if err != api.OK || len(r.right) != 0 {
		t.Fatalf("a new ring: %v, %d kept", err, len(r.right))
	}
	n := 0
	for i, seed := range seeds {
		for _, body := range []string{"", "a", "b"} {
			sig := Seal(seed, api.TagRoot, []byte(body))
			n++
			for range 3 {
				if !r.Open(i, api.TagRoot, []byte(body), sig) || len(r.right) != n {
					t.Fatalf("replica %d of %q: %d kept, not %d", i, body, len(r.right), n)
				}
				r.Open(i+1, api.TagRoot, []byte(body), sig)
				r.Open(i-4, api.TagRoot, []byte(body), sig)
				r.Open(i, api.TagView, []byte(body), sig)
				r.Open(i, api.TagRoot, []byte(body+"c"), sig)
				r.Open(i, api.TagRoot, []byte(body), api.Sig{})
			}
			if len(r.right) != n {
				t.Fatalf("what isn't right is kept: %d, not %d", len(r.right), n)
			}
		}
	}
}

// What is kept is asked ahead of the curve: else it were kept for nothing.
func TestKeptIsAsked(t *testing.T) {
	r, err := New(sign.Public(api.Hash{1}))
	if err != api.OK {
		t.Fatal(err)
	}
	s := statement{tag: api.TagRoot, body: "never said"}
	r.right[s] = struct{}{} // no call does this: only so can it be seen that the map alone was asked
	if !r.Open(s.from, s.tag, []byte(s.body), s.sig) {
		t.Error("what is kept isn't asked")
	}
}
