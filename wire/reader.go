package wire

import (
	"sederunt/api"
)

// Reader reads a text that consists of several codes from left to right.
type Reader struct {
	rest string
	err  api.Errno
}

// NewReader returns a reader of a text.
func NewReader(s string) *Reader { return &Reader{rest: s} }

// Int reads an integer; it returns 0 after an error.
func (r *Reader) Int() int { return next(r, getInt) }

// String reads a string; it returns the empty string after an error.
func (r *Reader) String() string { return next(r, GetString) }

// List reads a list of strings; it returns no list after an error.
func (r *Reader) List() []string { return next(r, GetList) }

// End returns the first error, or ErrSyntax if some of the text was not read.
func (r *Reader) End() api.Errno {
	if r.err == api.OK && r.rest != "" {
		return api.ErrSyntax
	}
	return r.err
}

// next reads with a function what comes next, unless there was an error.
func next[T any](r *Reader, get func(string) (T, int, api.Errno)) T {
	var none T
	if r.err != api.OK {
		return none
	}
	value, size, e := get(r.rest)
	if e != api.OK {
		r.err = e
		return none
	}
	r.rest = r.rest[size:]
	return value
}
