package seal

// nibbles is what becomes of a sum of four bits, when these are shifted out: 82F63B78 where a bit goes.
var nibbles = [16]uint32{
	0x00000000, 0x105ec76f, 0x20bd8ede, 0x30e349b1, 0x417b1dbc, 0x5125dad3, 0x61c69362, 0x7198540d,
	0x82f63b78, 0x92a8fc17, 0xa24bb5a6, 0xb21572c9, 0xc38d26c4, 0xd3d3e1ab, 0xe330a81a, 0xf36e6f75,
}

// Sum is the CRC-32C of bytes.
func Sum(b []byte) uint32 {
	sum := ^uint32(0)
	for _, c := range b {
		sum ^= uint32(c)
		sum = sum>>4 ^ nibbles[sum&15]
		sum = sum>>4 ^ nibbles[sum&15]
	}
	return ^sum
}
