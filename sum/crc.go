package sum

// turned is what a CRC begins with, and what it is turned by at last.
const turned uint32 = 0xffffffff

// fours has of each four bits what four halvings make of them: half a byte at a time keeps the table short.
var fours = [16]uint32{
	0x00000000, 0x1db71064, 0x3b6e20c8, 0x26d930ac,
	0x76dc4190, 0x6b6b51f4, 0x4db26158, 0x5005713c,
	0xedb88320, 0xf00f9344, 0xd6d6a3e8, 0xcb61b38c,
	0x9b64c2b0, 0x86d3d2d4, 0xa00ae278, 0xbdbdf21c,
}

// feed takes one more byte into a CRC that isn't turned at last yet.
func feed(state uint32, c byte) uint32 {
	state ^= uint32(c)
	state = state>>4 ^ fours[state&15]
	return state>>4 ^ fours[state&15]
}
