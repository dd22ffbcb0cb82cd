package digest

// halfBytes tells what four shifts xor to a register whose low four bits are the index. A table of whole bytes would be too long for the package level.
var halfBytes = [16]uint32{
	0x00000000, 0x1db71064, 0x3b6e20c8, 0x26d930ac, 0x76dc4190, 0x6b6b51f4, 0x4db26158, 0x5005713c,
	0xedb88320, 0xf00f9344, 0xd6d6a3e8, 0xcb61b38c, 0x9b64c2b0, 0x86d3d2d4, 0xa00ae278, 0xbdbdf21c,
}

// Crc returns the check sum of a string.
func Crc(s string) uint32 {
	register := ^uint32(0)
	for i := range len(s) {
		register ^= uint32(s[i])
		register = register>>4 ^ halfBytes[register&15]
		register = register>>4 ^ halfBytes[register&15]
	}
	return ^register
}
