package verified

// Checksum returns the checksum of some bytes.
func Checksum(b string) int {
	sum := len(b)
	for i := range len(b) {
		sum = (sum + (i+1)%65521*int(b[i])) % 65521
	}
	return sum % 65521
}

// Sealed returns bytes with their checksum behind them.
func Sealed(b []byte) string {
	sum := Checksum(string(b))
	return string(append(b, byte(sum>>8), byte(sum)))
}

// Open returns the bytes before the checksum; false if there are fewer than six bytes, or if it is wrong.
func Open(b string) (string, bool) {
	if len(b) < 6 {
		return "", false
	}
	inner, sum := b[:len(b)-2], b[len(b)-2:]
	return inner, int(sum[0])<<8|int(sum[1]) == Checksum(inner)
}

// AppendNumber appends a number in bytes of 7 bits, the lowest ones first.
func AppendNumber(b []byte, n int) []byte {
	for ; n >= 128; n >>= 7 {
		b = append(b, byte(n)|128)
	}
	return append(b, byte(n))
}

// Message returns the bytes of a message with a symbol.
func Message(round, from, to, symbol int) string {
	return Sealed(AppendNumber([]byte{byte(round), byte(from), byte(to)}, symbol))
}
