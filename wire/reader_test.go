package wire

import (
	"math"
	"slices"
	"strings"
	"testing"

	"sederunt/api"
)

// integer returns the code of an integer alone.
func integer(n int) string { return PutInts([]int{n})[1:] }

func TestReaderReads(t *testing.T) {
	r := NewReader("\x05\x01a")
	if n, s, e := r.Int(), r.String(), r.End(); n != -3 || s != "a" || e != api.OK {
		t.Errorf("P3.1: a reader of 5 1 97 returns %d, %q, %v", n, s, e)
	}
	long := strings.Repeat("é", 100)
	list := []string{"", long, "\x00"}
	r = NewReader(integer(math.MinInt64) + PutString(long) + PutList(list) + PutString("") + PutList(nil) + integer(0) + integer(math.MaxInt64))
	if n := r.Int(); n != math.MinInt64 {
		t.Errorf("P3.2: Int() = %d, want the least integer", n)
	}
	if s := r.String(); s != long {
		t.Errorf("P3.2: String() = %q, want %q", s, long)
	}
	if l := r.List(); !slices.Equal(l, list) {
		t.Errorf("P3.2: List() = %q, want %q", l, list)
	}
	if s, l := r.String(), r.List(); s != "" || len(l) != 0 {
		t.Errorf("P3.2: String() = %q, List() = %q, want two empty ones", s, l)
	}
	if n, m := r.Int(), r.Int(); n != 0 || m != math.MaxInt64 {
		t.Errorf("P3.2: Int() = %d, then %d, want 0 and the greatest integer", n, m)
	}
	if e := r.End(); e != api.OK {
		t.Errorf("P3.1: End() = %v behind all codes", e)
	}
}

func TestEndChangesNothing(t *testing.T) {
	r := NewReader(integer(-70) + PutString("ab") + PutList([]string{"c"}))
	for _, read := range []func() bool{
		func() bool { return r.Int() == -70 },
		func() bool { return r.String() == "ab" },
		func() bool { return slices.Equal(r.List(), []string{"c"}) },
	} {
		if e := r.End(); e != api.ErrSyntax {
			t.Errorf("P3.1: End() = %v before all was read, want ErrSyntax", e)
		}
		if e := r.End(); e != api.ErrSyntax {
			t.Errorf("P3.1: the second End() = %v before all was read, want ErrSyntax", e)
		}
		if !read() {
			t.Errorf("P3.1: what is read behind End is wrong")
		}
	}
	if first, second := r.End(), r.End(); first != api.OK || second != api.OK {
		t.Errorf("P3.1: End() = %v, then %v behind all, want OK", first, second)
	}
	if n := r.Int(); n != 0 || r.End() != api.ErrEmpty {
		t.Errorf("P3.1: Int() behind the end = %d, then End() = %v, want ErrEmpty", n, r.End())
	}
}

func TestReaderOfNothing(t *testing.T) {
	if e := NewReader("").End(); e != api.OK {
		t.Errorf("P3.1: End() of an empty text = %v", e)
	}
	if r := NewReader(""); r.Int() != 0 || r.End() != api.ErrEmpty {
		t.Errorf("P3.1: an integer of an empty text: End() = %v, want ErrEmpty", r.End())
	}
	if r := NewReader(""); r.String() != "" || r.End() != api.ErrEmpty {
		t.Errorf("P3.1: a string of an empty text: End() = %v, want ErrEmpty", r.End())
	}
	if r := NewReader(""); len(r.List()) != 0 || r.End() != api.ErrEmpty {
		t.Errorf("P3.1: a list of an empty text: End() = %v, want ErrEmpty", r.End())
	}
	if e := NewReader("\x00").End(); e != api.ErrSyntax {
		t.Errorf("P3.1: End() of a text of which nothing was read = %v, want ErrSyntax", e)
	}
}

// reading is one of the methods that read; it reports whether it returned its zero value.
type reading struct {
	name string
	zero func(*Reader) bool
}

// readings returns the methods that read.
func readings() []reading {
	return []reading{
		{"Int", func(r *Reader) bool { return r.Int() == 0 }},
		{"String", func(r *Reader) bool { return r.String() == "" }},
		{"List", func(r *Reader) bool { return len(r.List()) == 0 }},
	}
}

func TestReaderAfterAnError(t *testing.T) {
	good := integer(5) + PutString("ab") + PutList([]string{"c"})
	for _, x := range []struct {
		text   string
		method int
		want   api.Errno
	}{
		{"\x80\x00", 0, api.ErrSyntax}, {high(10), 0, api.ErrRange}, {high(9, 2), 0, api.ErrRange}, {high(9), 0, api.ErrEmpty},
		{"\x80\x00", 1, api.ErrSyntax}, {high(10), 1, api.ErrRange}, {"\x7f", 1, api.ErrEmpty},
		{"\x80\x00", 2, api.ErrSyntax}, {high(10), 2, api.ErrRange}, {"\x02\x01a\x7f", 2, api.ErrEmpty}, {"\x02\x01a\x80\x00", 2, api.ErrSyntax},
	} {
		text := x.text
		if x.want != api.ErrEmpty {
			text += good
		}
		r := NewReader(PutString("ab") + text)
		if s := r.String(); s != "ab" {
			t.Errorf("P3.1: String() = %q before an error, want ab", s)
		}
		if wrong := readings()[x.method]; !wrong.zero(r) || r.End() != x.want {
			t.Errorf("P3.1: %s() of % x: End() = %v, want %v and no value", wrong.name, text, r.End(), x.want)
		}
		for _, later := range readings() {
			if !later.zero(r) {
				t.Errorf("P3.1: %s() returns a value after an error in % x", later.name, text)
			}
		}
		if e := r.End(); e != x.want {
			t.Errorf("P3.1: End() = %v behind further readings of % x, want the first error %v", e, text, x.want)
		}
	}
}

func TestReadersShareNothing(t *testing.T) {
	text := PutList([]string{"a", "b"}) + integer(1)
	first, second := NewReader(text), NewReader(text)
	l := first.List()
	l[0] = "spoiled"
	_ = first.String()
	first.Int()
	if got := second.List(); !slices.Equal(got, []string{"a", "b"}) || second.Int() != 1 || second.End() != api.OK {
		t.Errorf("P3.1: a reader depends on another one: %q, %v", got, second.End())
	}
}
