// Package crc is layer 1, sums of bytes (the published CRC-16/MODBUS): see shared/doc/01-crc.md.
package crc

import "bytes"

const (
	start = 0xffff // the sum of no bytes
	turn  = 0xa001 // the published divisor, lowest bit first
	size  = 2      // how many bytes a sum has
)

// Sum is the sum of bytes.
func Sum(b []byte) uint16 { return More(start, b) }

// More is the sum of bytes whose sum is known, and of b behind them.
func More(sum uint16, b []byte) uint16 {
	for _, x := range b {
		sum = step(sum, x)
	}
	return sum
}

// step is what a sum is behind one byte more.
func step(sum uint16, x byte) uint16 {
	sum ^= uint16(x)
	for range 8 {
		odd := sum&1 == 1
		sum >>= 1
		if odd {
			sum ^= turn
		}
	}
	return sum
}

// Put are bytes, and their sum behind them, the lower byte first.
func Put(b []byte) []byte {
	sum := Sum(b)
	whole := make([]byte, 0, len(b)+size)
	whole = append(whole, b...)
	return append(whole, byte(sum), byte(sum>>8))
}

// Cut are bytes without their sum, and whether the last two are just that.
func Cut(b []byte) ([]byte, bool) {
	n := len(b) - size
	if n < 0 {
		return nil, false
	}
	whole := Put(b[:n]) // new memory, so that the answer shares none with b
	if !bytes.Equal(whole, b) {
		return nil, false
	}
	return whole[:n:n], true // the third index keeps the sum out of the answer's reach
}
