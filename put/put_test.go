package put_test

import (
	"math"
	"slices"
	"testing"

	"cotter/api"
	"cotter/put"
)

func TestPieces(t *testing.T) {
	for _, c := range []struct {
		name string
		got  []byte
		want string
	}{
		{"0", put.Number(nil, 0), "\x00"},
		{"300", put.Number([]byte("a"), 300), "a\xac\x02"},
		{"no text", put.Text(nil, ""), "\x00"},
		{"a text", put.Text([]byte("a"), "xyz"), "a\x03xyz"},
		{"-2", put.Long([]byte("a"), -2), "a\xfe\xff\xff\xff\xff\xff\xff\xff"},
		{"the least", put.Long(nil, math.MinInt64), "\x00\x00\x00\x00\x00\x00\x00\x80"},
		{"a symbol", put.Sym([]byte("a"), api.Sym{Name: "xy", Kind: api.SymData, At: 128}), "a\x02xy\x02\x80\x01"},
		{"no list", put.List([]byte("a"), nil, put.Long), "a\x00"},
		{"a list of texts", put.List([]byte("a"), []string{"x", "", "yz"}, put.Text), "a\x03\x01x\x00\x02yz"},
		{"a list of numbers", put.List(nil, []int{1, 200}, put.Number), "\x02\x01\xc8\x01"},
	} {
		if string(c.got) != c.want {
			t.Errorf("P6.1, P8.1: %s: %q, want %q", c.name, c.got, c.want)
		}
	}
}

func TestListsAreNotChanged(t *testing.T) {
	l := []int64{3, 1, 2}
	put.List(nil, l, put.Long)
	if !slices.Equal(l, []int64{3, 1, 2}) {
		t.Errorf("R5: the list became %v", l)
	}
}
