package config

import (
	"bytes"
	"slices"

	"triune/api"
	"triune/crc"
	"triune/word"
)

const (
	mark      = "TMR1"       // what an image begins with
	headSize  = 18           // how many bytes it has ahead of its points
	countAt   = headSize - 1 // where it tells how many points there are
	pointSize = 9            // how many bytes it has of each of them
)

// lay are the bytes of a configuration that may be, without their sum.
func lay(c Config) []byte {
	b := slices.Concat([]byte(mark), c.Units[:])
	b = layFields(b, fieldsOf(&c))
	b = put(b, int(c.Key), wordSize)
	b = put(b, len(c.Points), byteSize)
	for _, p := range c.Points {
		b = layFields(b, pointFields(&p))
	}
	return b
}

// layFields are bytes, and those of some fields behind them.
func layFields(b []byte, l []field) []byte {
	for _, f := range l {
		b = put(b, *f.at, f.size)
	}
	return b
}

// put are bytes, and a number's lower ones, size of them, behind.
func put(b []byte, n, size int) []byte {
	two := word.Put(uint16(n))
	return append(b, two[wordSize-size:]...)
}

// read is the configuration of an image, or what is wrong with it.
func read(b []byte) (Config, error) {
	body, is := crc.Cut(b)
	if !is {
		return Config{}, fault{"sum", api.ErrSum}
	}
	if !formed(body) {
		return Config{}, fault{"form", api.ErrForm}
	}
	c := parse(body)
	if err := check(c); err != nil {
		return Config{}, err
	}
	return c, nil
}

// formed tells whether bytes have the form of an image without its sum, whatever its numbers are.
func formed(b []byte) bool {
	return bytes.HasPrefix(b, []byte(mark)) && len(b) >= headSize &&
		len(b)-headSize == pointSize*int(b[countAt])
}

// parse is what bytes of that form tell, whether it may be or not.
func parse(b []byte) Config {
	var c Config
	b = b[len(mark):]
	b = b[copy(c.Units[:], b):]
	b = readFields(b, fieldsOf(&c))
	key, b := cut(b, wordSize)
	count, b := cut(b, byteSize)
	c.Key, c.Points = uint16(key), make([]api.Point, count)
	for i := range c.Points {
		b = readFields(b, pointFields(&c.Points[i]))
	}
	return c
}

// readFields takes some fields from the beginning of bytes: what is behind them. (What a field may be is asked only when all of them are there.)
func readFields(b []byte, l []field) []byte {
	for _, f := range l {
		*f.at, b = cut(b, f.size)
	}
	return b
}

// cut is the number of size bytes that b begins with, and what is behind it.
func cut(b []byte, size int) (int, []byte) {
	l, _ := word.Words(slices.Concat(make([]byte, wordSize-size), b[:size])) // two bytes are always a word
	return int(l[0]), b[size:]
}
