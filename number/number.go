// Package number: numbers of 32 bits as four bytes, the highest first.
package number

// Append puts a number's four bytes behind a text.
func Append(text []byte, n uint32) []byte {
	return append(text, byte(n>>24), byte(n>>16), byte(n>>8), byte(n))
}

// At reads the number whose first byte stands at that place; four bytes must be there.
func At(text string, at int) uint32 {
	return uint32(text[at])<<24 | uint32(text[at+1])<<16 | uint32(text[at+2])<<8 | uint32(text[at+3])
}
