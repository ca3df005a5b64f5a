package ink

// steps[k][v] is what becomes of a register that holds v, four bits, after 4(k+1) of the check sum's shifts: so eight half bytes are taken at a time, and not bit by bit.
var steps = [8][16]uint32{
	{
		0x00000000, 0x105ec76f, 0x20bd8ede, 0x30e349b1, 0x417b1dbc, 0x5125dad3, 0x61c69362, 0x7198540d,
		0x82f63b78, 0x92a8fc17, 0xa24bb5a6, 0xb21572c9, 0xc38d26c4, 0xd3d3e1ab, 0xe330a81a, 0xf36e6f75,
	},
	{
		0x00000000, 0xf26b8303, 0xe13b70f7, 0x1350f3f4, 0xc79a971f, 0x35f1141c, 0x26a1e7e8, 0xd4ca64eb,
		0x8ad958cf, 0x78b2dbcc, 0x6be22838, 0x9989ab3b, 0x4d43cfd0, 0xbf284cd3, 0xac78bf27, 0x5e133c24,
	},
	{
		0x00000000, 0x3fc5f181, 0x7f8be302, 0x404e1283, 0xff17c604, 0xc0d23785, 0x809c2506, 0xbf59d487,
		0xfbc3faf9, 0xc4060b78, 0x844819fb, 0xbb8de87a, 0x04d43cfd, 0x3b11cd7c, 0x7b5fdfff, 0x449a2e7e,
	},
	{
		0x00000000, 0x13a29877, 0x274530ee, 0x34e7a899, 0x4e8a61dc, 0x5d28f9ab, 0x69cf5132, 0x7a6dc945,
		0x9d14c3b8, 0x8eb65bcf, 0xba51f356, 0xa9f36b21, 0xd39ea264, 0xc03c3a13, 0xf4db928a, 0xe7790afd,
	},
	{
		0x00000000, 0x70a27d8a, 0xe144fb14, 0x91e6869e, 0xc76580d9, 0xb7c7fd53, 0x26217bcd, 0x56830647,
		0x8b277743, 0xfb850ac9, 0x6a638c57, 0x1ac1f1dd, 0x4c42f79a, 0x3ce08a10, 0xad060c8e, 0xdda47104,
	},
	{
		0x00000000, 0xa541927e, 0x4f6f520d, 0xea2ec073, 0x9edea41a, 0x3b9f3664, 0xd1b1f617, 0x74f06469,
		0x38513ec5, 0x9d10acbb, 0x773e6cc8, 0xd27ffeb6, 0xa68f9adf, 0x03ce08a1, 0xe9e0c8d2, 0x4ca15aac,
	},
	{
		0x00000000, 0xe964b13d, 0xd725148b, 0x3e41a5b6, 0xaba65fe7, 0x42c2eeda, 0x7c834b6c, 0x95e7fa51,
		0x52a0c93f, 0xbbc47802, 0x8585ddb4, 0x6ce16c89, 0xf90696d8, 0x106227e5, 0x2e238253, 0xc747336e,
	},
	{
		0x00000000, 0xdd45aab8, 0xbf672381, 0x62228939, 0x7b2231f3, 0xa6679b4b, 0xc4451272, 0x1900b8ca,
		0xf64463e6, 0x2b01c95e, 0x49234067, 0x9466eadf, 0x8d665215, 0x5023f8ad, 0x32017194, 0xef44db2c,
	},
}

// Sum is the check sum of the parts.
func Sum(parts ...[]byte) uint32 {
	register := ^uint32(0)
	for _, part := range parts {
		register = taken(register, part)
	}
	return ^register
}

func taken(register uint32, part []byte) uint32 {
	for len(part) >= 4 {
		register ^= uint32(part[0]) | uint32(part[1])<<8 | uint32(part[2])<<16 | uint32(part[3])<<24
		register = shifted(register)
		part = part[4:]
	}
	for _, c := range part {
		register ^= uint32(c)
		register = register>>8 ^ steps[1][register&15] ^ steps[0][register>>4&15]
	}
	return register
}

// shifted is the register after 32 shifts: its lowest half byte goes out first, and what it leaves is shifted the longest.
func shifted(r uint32) uint32 {
	return steps[7][r&15] ^ steps[6][r>>4&15] ^ steps[5][r>>8&15] ^ steps[4][r>>12&15] ^
		steps[3][r>>16&15] ^ steps[2][r>>20&15] ^ steps[1][r>>24&15] ^ steps[0][r>>28]
}
