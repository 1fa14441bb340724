package sluice

import (
	"errors"
	"strconv"

	"sluice/api"
)

// misread is an error at a place of a text.
type misread struct {
	error
	line, column int
}

func (m misread) Unwrap() error { return m.error }

// fault is a number as an error: api.OK is none.
func fault(e api.Errno) error {
	if e == api.OK {
		return nil
	}
	return e
}

// number asks an error for its number: that of none is api.OK.
func number(err error) api.Errno {
	var e api.Errno
	errors.As(err, &e)
	return e
}

// tell tells an error's number, and its place, if it has one.
func tell(err error) string {
	text := "error " + strconv.Itoa(int(number(err)))
	var at misread
	if errors.As(err, &at) {
		text += " line " + strconv.Itoa(at.line) + " column " + strconv.Itoa(at.column)
	}
	return text + "\n"
}
