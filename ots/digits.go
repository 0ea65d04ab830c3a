package ots

import "lattice/api"

const (
	perByte    = 4 // digits of a byte
	textDigits = hashSize * perByte
	checkSize  = 2
	checkUnit  = 64 // puts the sum into those five of the two bytes' digits that count
)

// digits are how many steps a signature of a text with that hash goes on each chain.
// The check behind the hash falls where a digit of it rises: who has a signature can go on, never back,
// and so gets to no other text's.
func digits(hash api.Id) [chains]int {
	var b [hashSize + checkSize]byte
	copy(b[:], hash[:])
	sum := 0
	for i := range textDigits {
		sum += steps - digit(b[i/perByte], i%perByte)
	}
	check := checkUnit * sum
	b[hashSize] = byte(check >> 8)
	b[hashSize+1] = byte(check)
	var a [chains]int
	for i := range a {
		a[i] = digit(b[i/perByte], i%perByte)
	}
	return a
}

// digit is one of a byte's, the highest bits first.
func digit(b byte, at int) int {
	return int(b>>(6-2*at)) & 3
}
